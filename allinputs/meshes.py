"""Meshes: which formulas of a book hang on which ones."""

from allinputs.bonds import Bonds, Sequence
from allinputs.reaches import ALONE, Sizes, name_sizes, trailing_sizes
from allinputs.rects import RectIndex, cells_held_in, has_other, met_rect, rect_from
from allinputs.sights import Sight


class Mesh:
    """The contents of cells under a setting, with the sights and sizes of all formulas.

    What a Mesh tells does not change. It is made from an old one with the same setting in which some cells alone hold
    something else, or from None.
    """

    def __init__(self, setting, contents, cells, old):
        self.setting = setting
        self.contents = contents
        # The sizes of the names in which no spill reference is written.
        self.of_names = name_sizes(setting) if old is None else old.of_names
        self.sights = self._sights_behind(cells, {} if old is None else old.sights)
        seen = RectIndex({}, {}, {}) if old is None else old.seen
        self.seen = seen.changed(_seen_changes(cells, {} if old is None else old.sights, self.sights))
        # The cells with formulas in which, or in the names of which, spill references are written.
        self.trails = self._trails_behind(cells, {} if old is None else old.trails)
        self.sizes = self._sizes_behind(cells, {} if old is None else old.sizes)
        reached = RectIndex({}, {}, {}) if old is None else old.reached
        self.reached = reached.changed(self._reach_changes(cells, {} if old is None else old.sizes))
        # What is told of hanging is kept, as it is asked for again and again.
        self.bonds = Bonds() if old is None or self._has_other_bonds(cells, old.contents) else old.bonds

    def _sights_behind(self, cells, old):
        """The dict of the sights of all formulas."""
        sights = {cell: old[cell] for cell in old}
        for cell in cells:
            content = self.contents.get(cell)
            sights.pop(cell, None)
            if isinstance(content, tuple):
                sights[cell] = Sight(content, cell[0], self.setting)
        return sights

    def _trails_behind(self, cells, old):
        """The dict of the cells whose sizes depend on those of other cells."""
        trails = {cell: True for cell in old}
        for cell in cells:
            trails.pop(cell, None)
            if cell in self.sights and self.sights[cell].is_trailing:
                trails[cell] = True
        return trails

    def _sizes_behind(self, cells, old):
        """The dict of the sizes of all formulas."""
        known = {cell: old[cell] for cell in old}
        sizes = Sizes(self.setting, {}, self.of_names)
        for cell in cells:
            known.pop(cell, None)
            if cell in self.sights and cell not in self.trails:
                known[cell] = sizes.size_of(self.contents[cell], cell[0])
        if not self.trails:
            return known
        formulas = {cell: self.contents[cell] for cell in self.trails}
        return trailing_sizes(self.setting, formulas, known, self.of_names)

    def _reach_changes(self, cells, old):
        """The triples of cells and their reaches of several cells ahead and now that RectIndex asks for."""
        changes = []
        for cell in {other: True for other in list(cells) + list(self.trails)}:
            before = _reach_from(cell, old.get(cell, ALONE))
            behind = _reach_from(cell, self.size_at(cell))
            if before != behind:
                changes.append((cell, before, behind))
        return changes

    def size_at(self, cell):
        """The pair (height, width) of the reach of a cell."""
        return self.sizes.get(cell, ALONE)

    def reach_of_cell(self, cell):
        """The rectangle of the reach of a cell, cut at the edges of the sheet."""
        height, width = self.size_at(cell)
        return rect_from(cell, height, width)

    def reaching(self, cell):
        """A list of the formulas with a reach of several cells in which a cell lies."""
        return self.reached.keys_at(cell)

    def hanging_on(self, cell):
        """A list, without one twice, of the formulas that hang on that of a cell by one step."""
        if cell not in self.bonds.hanging:
            self.bonds.keep_hanging(cell, self._found_hanging_on(cell))
        return self.bonds.hanging[cell]

    def sequence(self):
        """The Sequence of all formulas."""
        if self.bonds.whole is None:
            self.bonds.keep_whole(Sequence({cell: self.hanging_on(cell) for cell in self.sights}))
        return self.bonds.whole

    def _has_other_bonds(self, cells, old):
        """Whether some cells hold, or held, formulas, or something where there was nothing, or the other way round."""
        for cell in cells:
            content, before = self.contents.get(cell), old.get(cell)
            if isinstance(content, tuple) or isinstance(before, tuple) or (content is None) != (before is None):
                return True
        return False

    def _found_hanging_on(self, cell):
        """The same, looked for among all formulas."""
        found = {other: True for other in self.seen.keys_at(cell)}
        if self.size_at(cell) != ALONE:
            rect = self.reach_of_cell(cell)
            for other in self.seen.keys_beside(rect, self.contents):
                found[other] = True
            for other in self.reached.keys_beside(rect, self.contents):
                if other[0] == cell[0] and other > cell:
                    found[other] = True
        return list(found)

    def hangs_on_cells(self, cell):
        """A list, without one twice, of the formulas on which that of a cell hangs by one step."""
        areas = self.sights[cell].areas
        found = {other: True for other in self.formulas_seen(areas)}
        if self.size_at(cell) != ALONE:
            for other in self._spilling_into((self.reach_of_cell(cell),)):
                if other[0] == cell[0] and other < cell:
                    found[other] = True
        return list(found)

    def formulas_seen(self, areas):
        """A list, without one twice, of the formulas in some rectangles, or that may spill into them."""
        found = {other: True for rect in areas for other in cells_held_in(rect, self.sights)}
        for other in self._spilling_into(areas):
            found[other] = True
        return list(found)

    def _spilling_into(self, rects):
        """A list of the formulas in whose reach a cell of some rectangles lies that holds nothing."""
        found = []
        for reach, others in self.reached.whole.items():
            shared = [met_rect(rect, reach) for rect in rects]
            if any([rect is not None and has_other(rect, self.contents) for rect in shared]):
                found.extend(others)
        return found


def _seen_changes(cells, old, fresh):
    """The triples of cells and what their formulas saw ahead, and see now, that RectIndex asks for."""
    changes = []
    for cell in cells:
        before = old[cell].areas if cell in old else ()
        behind = fresh[cell].areas if cell in fresh else ()
        if before != behind:
            changes.append((cell, before, behind))
    return changes


def _reach_from(cell, size):
    """The tuple of the reach of a cell; of one that is the cell alone nothing is told."""
    return () if size == ALONE else (rect_from(cell, size[0], size[1]),)
