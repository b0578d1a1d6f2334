"""Tracks: the Rows of the cells of a book some of whose cells hold Rows."""

from allinputs.addresses import COLUMNS, ROWS
from allinputs.errors import NotTold, TooHigh
from allinputs.evaluating import Worker
from allinputs.flows import Flow
from allinputs.grids import Grid
from allinputs.rects import cells_of, has_cell, rect_from
from allinputs.rows import all_marks, level_row, worked_row
from allinputs.states import not_blank
from allinputs.values import Fault


class Tracks:
    """What follows for the formulas of a Mesh from the Rows that some of its cells hold; worked when it is asked for.

    The cells that hold Rows hold numbers in the Mesh. Formulas may be worked in their places (see Flow).
    """

    def __init__(self, mesh, ruler, holders, placed):
        self.mesh = mesh
        self.ruler = ruler
        self.flow = Flow(mesh, holders, placed)
        # The Rows of cells; None for the formulas that are not told, of which failed has the reasons.
        self.rows = {}
        self.failed = {}
        # The values of cells where a formula is worked; those that are spilled there, and the spills.
        self.known = {cell: held for cell, held in mesh.contents.items() if not isinstance(held, tuple)}
        for cell in self.flow.ringed:
            self.known[cell] = Fault("RING")
        self.spilled = {}
        self.spills = {}
        self.worker = Worker(mesh, self.known, self.spills)

    def hold(self, cell, row):
        """Makes a cell hold a Row; what hangs on it is to be worked anew. A dict of the placed formulas that do."""
        self._keep(cell, row)
        formulas, placed = self.flow.behind(cell, self.rows)
        for other in formulas:
            del self.rows[other]
            self.failed.pop(other, None)
        return placed

    def placed_row(self, cell):
        """The Row of the formula that is worked in the place of a cell."""
        formula, sight = self.flow.placed[cell]
        sources = self.flow.sources[cell]
        self._work_all(sources)
        return self._worked(FormulaWork(self, cell, formula, sight), sources + self.flow.placed_held[cell])

    def value_row(self, cell):
        """The Row of the values of a cell."""
        if cell in self.rows and cell not in self.mesh.sights:
            return self.rows[cell]
        if cell in self.mesh.contents and cell not in self.flow.ranks:
            return level_row(self.known[cell])
        sources = [cell] if cell in self.flow.ranks else self.mesh.reaching(cell)
        sources = [other for other in sorted(sources) if other not in self.flow.ringed]
        self._work_all(sources)
        rows = [self.rows[other] for other in sources]
        if cell in self.flow.ranks and not rows[0].has_grid():
            return rows[0]
        work = PartWork(self, cell, sources)
        return worked_row(self.ruler, all_marks(rows), work)

    def take(self, cell, thing):
        """Lets a cell, and those into which it spills, have what a thing tells, where a formula is worked next."""
        if not isinstance(thing, Grid):
            self.known[cell] = thing
            return
        self.spills[cell] = (thing.height, thing.width)
        for other, value in zip(cells_of(rect_from(cell, thing.height, thing.width)), thing.cells()):
            self.known[other] = value
            if other != cell:
                self.spilled[other] = True

    def work_at(self, cell, formula, sight):
        """The thing that a formula tells in a cell, by what was taken."""
        thing = self.worker.result_of(formula, cell, sight)
        if not isinstance(thing, Grid):
            return not_blank(thing)
        if thing.height * thing.width == 1:
            return not_blank(thing.rows[0][0])
        return self._spilling(cell, thing)

    def forget_taken(self):
        """Forgets all spills that were taken."""
        for cell in self.spilled:
            del self.known[cell]
        self.spilled.clear()
        self.spills.clear()

    def _spilling(self, cell, grid):
        """A Grid as it is spilled by a cell, or the fault SPILL."""
        if cell[1] + grid.height - 1 > ROWS or cell[2] + grid.width - 1 > COLUMNS:
            return Fault("SPILL")
        for other in cells_of(rect_from(cell, grid.height, grid.width)):
            if other != cell and (other in self.mesh.contents or other in self.spilled):
                return Fault("SPILL")
        return Grid([tuple([not_blank(value) for value in row]) for row in grid.rows])

    def _work_all(self, cells):
        """Works some formulas, and all on which they hang; an error if one of them is not told."""
        for cell in self.flow.to_work(cells, self.rows):
            self._work_one(cell)
        for cell in cells:
            if cell in self.failed:
                raise_failure(self.failed[cell])

    def _work_one(self, cell):
        """Works a formula, if all on which it hangs are worked."""
        sources = self.flow.sources[cell]
        failures = [self.failed[other] for other in sources if other in self.failed]
        row = None
        if not failures:
            try:
                work = FormulaWork(self, cell, self.mesh.contents[cell], self.mesh.sights[cell])
                row = self._worked(work, sources + self.flow.held.get(cell, []))
            except NotTold:
                failures.append(0)
            except TooHigh as error:
                failures.append(error.most)
        if failures:
            self.failed[cell] = failures[0]
        self._keep(cell, row)

    def _worked(self, work, cells):
        """The Row of a formula that is worked with what some cells have."""
        turning = [cell for cell in cells if not self.rows[cell].is_constant]
        # Values that do not turn are taken once; spills each time, as others may spill into the same cells elsewhere.
        grids = []
        for cell in cells:
            if self.rows[cell].is_constant:
                if self.rows[cell].has_grid():
                    grids.append(cell)
                else:
                    self.known[cell] = self.rows[cell].spans[0]
        work.use([(cell, self.rows[cell]) for cell in turning + grids])
        if not turning:
            return level_row(work.told_level())
        return worked_row(self.ruler, all_marks([self.rows[cell] for cell in turning]), work)

    def _keep(self, cell, row):
        """Keeps the Row of a cell."""
        self.rows[cell] = row


class FormulaWork:
    """A formula that is worked in a cell, on spans and at marks."""

    def __init__(self, tracks, cell, formula, sight):
        self.tracks = tracks
        self.cell = cell
        self.formula = formula
        self.sight = sight
        self.inputs = []

    def use(self, inputs):
        """Tells the pairs of cells and Rows that are to be taken each time."""
        self.inputs = inputs

    def told_level(self):
        """What it tells where nothing turns."""
        self.tracks.forget_taken()
        for cell, row in self.inputs:
            self.tracks.take(cell, row.spans[0])
        return self._told()

    def told_on(self, first, last):
        """What it tells on the span between two marks."""
        self.tracks.forget_taken()
        for cell, row in self.inputs:
            self.tracks.take(cell, row.thing_on(self.tracks.ruler, first, last))
        return self._told()

    def told_at(self, mark):
        """What it tells at a mark."""
        self.tracks.forget_taken()
        for cell, row in self.inputs:
            self.tracks.take(cell, row.thing_at(self.tracks.ruler, mark))
        return self._told()

    def _told(self):
        """What it tells by what was taken."""
        return self.tracks.work_at(self.cell, self.formula, self.sight)


class PartWork:
    """The value of a cell among those that some formulas spill: of the first one of these that spills into it."""

    def __init__(self, tracks, cell, sources):
        self.tracks = tracks
        self.cell = cell
        self.sources = sources

    def told_on(self, first, last):
        """The value on the span between two marks."""
        things = [self.tracks.rows[other].thing_on(self.tracks.ruler, first, last) for other in self.sources]
        return self._part(things)

    def told_at(self, mark):
        """The value at a mark."""
        return self._part([self.tracks.rows[other].thing_at(self.tracks.ruler, mark) for other in self.sources])

    def _part(self, things):
        """The value of the cell by the things of all formulas."""
        for other, thing in zip(self.sources, things):
            if not isinstance(thing, Grid):
                if other == self.cell:
                    return thing
            elif has_cell(rect_from(other, thing.height, thing.width), self.cell):
                return thing.rows[self.cell[1] - other[1]][self.cell[2] - other[2]]
        return None


def raise_failure(failure):
    """Raises what was kept of an error: NotTold for 0, otherwise TooHigh."""
    if failure == 0:
        raise NotTold()
    raise TooHigh(failure)
