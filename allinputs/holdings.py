"""What books hold."""

from allinputs.meshes import Mesh
from allinputs.settings import Setting


class Holding:
    """What a book holds. It does not change; its Mesh is made when it is asked for.

    tabs are the names of its sheets; contents and texts are dicts from cells to what they hold and to its texts;
    named and name_texts are such dicts from names to their formulas.
    """

    def __init__(self, tabs, contents, texts, named, name_texts):
        self.tabs = tabs
        self.contents = contents
        self.texts = texts
        self.named = named
        self.name_texts = name_texts
        self.mesh = None

    def is_like(self, other):
        """Whether two books hold the same."""
        return self.tabs == other.tabs and self.texts == other.texts and self.name_texts == other.name_texts

    def mesh_by(self, other):
        """The Mesh; it is made sooner from that of something like it, if there is one, or None."""
        if self.mesh is None:
            if other is not None and self._has_setting_of(other):
                self.mesh = Mesh(other.mesh.setting, self.contents, unlike(other.texts, self.texts), other.mesh)
            else:
                self.mesh = Mesh(Setting(self.tabs, self.named), self.contents, list(self.contents), None)
        return self.mesh

    def _has_setting_of(self, other):
        """Whether another book has a Mesh, and the same sheets and names."""
        return other.mesh is not None and self.tabs == other.tabs and self.name_texts == other.name_texts


def held_with(held, numbers):
    """What a book holds if some of its cells hold numbers, told as a dict to Ratios."""
    contents = {cell: held.contents[cell] for cell in held.contents}
    texts = {cell: held.texts[cell] for cell in held.texts}
    for cell, number in numbers.items():
        contents[cell] = number
        # Any text will do by which contents are told apart.
        texts[cell] = str(number)
    return Holding(held.tabs, contents, texts, held.named, held.name_texts)


def unlike(one, other):
    """The list of the keys for which two dicts of texts do not have the same."""
    keys = [key for key in one if one[key] != other.get(key)]
    return keys + [key for key in other if key not in one]
