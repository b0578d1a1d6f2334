"""Settings: the sheets and the names of a book, and what the formulas of the names use."""

from allinputs.ordering import small_letters
from allinputs.trees import nodes_of


class Setting:
    """The tuple of the names of the sheets, and the dict of the formulas of the names."""

    def __init__(self, tabs, named):
        self.tabs = tabs
        self.named = named
        self.tab_at = {small_letters(tab): at for at, tab in enumerate(tabs)}
        self.nodes = {name: nodes_of(formula) for name, formula in named.items()}
        self.uses = {name: _used_by(name, self.nodes) for name in named}
        self.spilling = {name: True for name in named if self._has_spill(name)}

    def tab_of(self, sheet, otherwise):
        """The number of the sheet with a name, another one for None; None if there is no such sheet."""
        if sheet is None:
            return otherwise
        return self.tab_at.get(small_letters(sheet))

    def is_circular(self, name):
        """Whether a defined name uses itself."""
        return name in self.uses[name]

    def used_in(self, nodes):
        """The tuple of the names among some nodes, and of those that the formulas of these use."""
        found = {}
        for node in nodes:
            if node[0] == "name" and node[1] not in found:
                found[node[1]] = True
                for name in self.uses.get(node[1], ()):
                    found[name] = True
        return tuple(found)

    def _has_spill(self, name):
        """Whether a spill reference is written in the formula of a name or of one that it uses."""
        nodes = [node for used in (name,) + self.uses[name] for node in self.nodes.get(used, ())]
        return any([node[0] == "spill" for node in nodes])


def _used_by(name, nodes):
    """The tuple of the names that the formula of a name uses, by any number of steps."""
    found = {}
    queue = [name]
    while queue:
        for node in nodes.get(queue.pop(), ()):
            if node[0] == "name" and node[1] not in found:
                found[node[1]] = True
                queue.append(node[1])
    return tuple(found)
