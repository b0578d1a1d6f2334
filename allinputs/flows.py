"""Flows: what is worked behind what, where some cells hold what their formulas, or a range, tell."""

from allinputs.bonds import turned_about
from allinputs.rects import cells_held_in


class Flow:
    """The order of the formulas of a Mesh that are in no ring, and of what hangs on some cells, the holders.

    placed is a dict from cells, which hold no formula in the Mesh, to pairs of a formula that is worked in their place
    and its Sight; moving is a dict from the formulas that are worked here, all others have values from the beginning.
    """

    def __init__(self, mesh, holders, placed, moving):
        self.mesh = mesh
        self.moving = moving
        self.placed = placed
        whole = mesh.sequence()
        self.ringed = whole.ringed
        self.users = whole.users
        self.ranks = whole.ranks
        # The formulas on which others, also placed ones, hang by one step; those in rings are left out.
        self.sources = whole.sources
        if placed:
            self.sources = _with_placed(mesh, whole.sources, placed)
        # The holders that formulas see, and that placed ones see; and the formulas, placed or not, that see them.
        self.held = turned_about({cell: mesh.seen.keys_at(cell) for cell in holders})
        self.placed_held = _held_by(placed, holders)
        self.placed_viewers = turned_about(self.placed_held)
        self.placed_users = turned_about({cell: self.sources[cell] for cell in placed})

    def to_work(self, cells, known):
        """The list, in the order of working, of formulas and all on which they hang that are no keys of a dict."""
        found = {}
        queue = list(cells)
        while queue:
            cell = queue.pop()
            if cell in self.moving and cell in self.ranks and cell not in known and cell not in found:
                found[cell] = True
                queue.extend(self.sources[cell])
        by_rank = {self.ranks[cell]: cell for cell in found}
        return [by_rank[rank] for rank in sorted(list(by_rank))]

    def behind(self, cell, known):
        """Two dicts to True: of the formulas that hang on what a cell holds, and of the placed ones that do.

        What hangs on formulas that are no keys of known is left out.
        """
        found = {}
        placed = {other: True for other in self.placed_viewers.get(cell, ())}
        queue = list(self.mesh.seen.keys_at(cell))
        while queue:
            other = queue.pop()
            if other not in found and other in known:
                found[other] = True
                queue.extend(self.users.get(other, ()))
                for peer in self.placed_users.get(other, ()):
                    placed[peer] = True
        return found, placed


def _with_placed(mesh, sources, placed):
    """The dict of the lists of the formulas on which others hang, with those for placed ones."""
    told = {cell: sources[cell] for cell in sources}
    for cell, (_, sight) in placed.items():
        told[cell] = [other for other in mesh.formulas_seen(sight.areas) if other in sources]
    return told


def _held_by(placed, holders):
    """The dict from the cells of placed formulas to the lists of the holders that they see, each once."""
    table = {cell: True for cell in holders}
    found = {}
    for cell, (_, sight) in placed.items():
        found[cell] = list({other: True for rect in sight.areas for other in cells_held_in(rect, table)})
    return found
