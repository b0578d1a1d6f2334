"""Flows: what is worked behind what, where some cells hold what their formulas, or a range, tell."""

from allinputs.chains import in_turn
from allinputs.rects import cells_held_in
from allinputs.states import parted


class Flow:
    """The order of the formulas of a Mesh that are in no ring, and of what hangs on some cells, the holders.

    placed is a dict from cells, which hold no formula in the Mesh, to pairs of a formula that is worked in their place
    and its Sight.
    """

    def __init__(self, mesh, holders, placed):
        self.mesh = mesh
        self.placed = placed
        self.ringed, self.users = parted({cell: mesh.hanging_on(cell) for cell in mesh.sights})
        self.ranks = {cell: rank for rank, cell in enumerate(in_turn(self.users))}
        # The formulas on which others, also placed ones, hang by one step; those in rings are left out.
        self.sources = _all_sources(mesh, self.users, placed)
        # The holders that formulas see, and that placed ones see; and the formulas, placed or not, that see them.
        self.held = turned_about({cell: mesh.seen.keys_at(cell) for cell in holders})
        self.placed_held = _held_by(placed, holders)
        self.placed_viewers = turned_about(self.placed_held)
        self.placed_users = turned_about({cell: self.sources[cell] for cell in placed})

    def to_work(self, cells, known):
        """The list, in the order of working, of formulas and all on which they hang that are no keys of a dict."""
        found = {}
        queue = [cell for cell in cells if cell in self.ranks and cell not in known]
        while queue:
            cell = queue.pop()
            if cell not in found:
                found[cell] = True
                queue.extend([other for other in self.sources[cell] if other not in known])
        by_rank = {self.ranks[cell]: cell for cell in found}
        return [by_rank[rank] for rank in sorted(list(by_rank))]

    def behind(self, cell, known):
        """Two dicts to True: of the formulas that hang on what a cell holds, and of the placed ones that do.

        What hangs on formulas that are no keys of known is left out.
        """
        found = {}
        placed = {other: True for other in self.placed_viewers.get(cell, ())}
        queue = list(self.mesh.seen.keys_at(cell))
        while queue:
            other = queue.pop()
            if other not in found and other in known:
                found[other] = True
                queue.extend(self.users.get(other, ()))
                for peer in self.placed_users.get(other, ()):
                    placed[peer] = True
        return found, placed


def turned_about(table):
    """A dict from all that the lists of a dict have to the lists of the keys of these, each once."""
    told = {}
    for key in table:
        for thing in list({other: True for other in table[key]}):
            told.setdefault(thing, []).append(key)
    return told


def _all_sources(mesh, users, placed):
    """The dict from the cells of formulas in no ring, and of placed ones, to the lists of those on which they hang."""
    found = turned_about(users)
    sources = {cell: found.get(cell, []) for cell in users}
    for cell, (_, sight) in placed.items():
        sources[cell] = [other for other in mesh.formulas_seen(sight.areas) if other in users]
    return sources


def _held_by(placed, holders):
    """The dict from the cells of placed formulas to the lists of the holders that they see, each once."""
    table = {cell: True for cell in holders}
    found = {}
    for cell, (_, sight) in placed.items():
        found[cell] = list({other: True for rect in sight.areas for other in cells_held_in(rect, table)})
    return found
