"""Tracks: the Rows of the cells of a book some of whose cells hold Rows."""

from allinputs.addresses import COLUMNS, ROWS
from allinputs.errors import NotTold, TooHigh
from allinputs.evaluating import Worker
from allinputs.flows import Flow
from allinputs.grids import Grid, made_grid
from allinputs.rects import cells_of, has_cell, rect_from
from allinputs.rows import all_marks, level_row, thing_at, thing_on, worked_row
from allinputs.states import not_blank, touched_between
from allinputs.values import Fault
from allinputs.wholes import MOST_DIGITS


class Tracks:
    """What follows for the formulas of a Mesh from the Rows that some of its cells hold; worked when it is asked for.

    The Mesh is that of a State but for the holders, the cells that hold Rows: they hold numbers in it. Formulas that do
    not hang on these have the values of the State. Formulas may be worked in the place of holders (see Flow).
    """

    def __init__(self, state, mesh, ruler, holders, placed):
        self.state = state
        self.mesh = mesh
        self.ruler = ruler
        # The holders, and all formulas whose values may hang on what these hold.
        self.moving = {cell: True for cell in holders + list(touched_between(state.held.mesh, mesh, holders, []))}
        self.flow = Flow(mesh, holders, placed, self.moving)
        # The Rows of cells; None for the formulas that are not told, of which failed has the reasons.
        self.rows = {}
        self.failed = {cell: MOST_DIGITS for cell in state.failed if cell not in self.moving}
        # The values of cells where a formula is worked, the spills there, and the cells into which these go.
        self.spills = {cell: size for cell, size in state.spills.items() if cell not in self.moving}
        self.owners = {cell: owner for cell, owner in state.owners.items() if owner not in self.moving}
        self.known = {cell: value for cell, value in state.known.items() if self._is_steady(cell)}
        for cell in self.flow.ringed:
            self.known[cell] = Fault("RING")
        self.taken = []
        self.worker = Worker(mesh, self.known, self.spills)

    def hold(self, cell, row):
        """Makes a cell hold a Row; what hangs on it is to be worked anew. A dict of the placed formulas that do."""
        self._keep(cell, row)
        formulas, placed = self.flow.behind(cell, self.rows)
        for other in formulas:
            del self.rows[other]
            self.failed.pop(other, None)
        return placed

    def placed_row(self, cell):
        """The Row of the formula that is worked in the place of a cell."""
        formula, sight = self.flow.placed[cell]
        sources = self.flow.sources[cell]
        self._work_all(sources)
        return self._worked(FormulaWork(self, cell, formula, sight), sources + self.flow.placed_held[cell])

    def value_row(self, cell):
        """The Row of the values of a cell."""
        if cell in self.mesh.contents and cell not in self.flow.ranks:
            return self.rows[cell] if cell in self.rows else level_row(self.known[cell])
        sources = [cell] if cell in self.flow.ranks else sorted(self.mesh.reaching(cell))
        sources = [other for other in sources if other not in self.flow.ringed]
        self._work_all(sources)
        rows = [self.row_of(other) for other in sources]
        if cell in self.flow.ranks and not rows[0].has_grid():
            return rows[0]
        return worked_row(self.ruler, all_marks(rows), PartWork(self.ruler, cell, list(zip(sources, rows))))

    def row_of(self, cell):
        """The Row of what a formula that is worked tells."""
        if cell in self.moving:
            return self.rows[cell]
        if cell not in self.spills:
            return level_row(self.known[cell])
        sheet, top, left, bottom, right = rect_from(cell, self.spills[cell][0], self.spills[cell][1])
        columns = range(left, right + 1)
        return level_row(Grid([
            tuple([self.known[(sheet, row, column)] for column in columns]) for row in range(top, bottom + 1)
        ]))

    def take(self, cell, thing):
        """Lets a cell, and those into which it spills, have what a thing tells, where a formula is worked next."""
        if not isinstance(thing, Grid):
            self.known[cell] = thing
            return
        self.taken.append(cell)
        self.spills[cell] = (thing.height, thing.width)
        for other, value in zip(cells_of(rect_from(cell, thing.height, thing.width)), thing.cells()):
            self.known[other] = value
            if other != cell:
                self.owners[other] = cell

    def work_at(self, cell, formula, sight):
        """The thing that a formula tells in a cell, by what was taken."""
        thing = self.worker.result_of(formula, cell, sight)
        if not isinstance(thing, Grid):
            return not_blank(thing)
        if thing.height * thing.width == 1:
            return not_blank(thing.rows[0][0])
        return self._spilling(cell, thing)

    def forget_taken(self):
        """Forgets all spills that were taken."""
        for cell in self.taken:
            height, width = self.spills.pop(cell)
            for other in cells_of(rect_from(cell, height, width)):
                if other != cell:
                    del self.known[other]
                    del self.owners[other]
        self.taken.clear()

    def _is_steady(self, cell):
        """Whether the value that a cell has in the State does not hang on what the holders hold."""
        return cell not in self.moving and self.state.owners.get(cell) not in self.moving

    def _spilling(self, cell, grid):
        """A Grid as it is spilled by a cell, or the fault SPILL."""
        if cell[1] + grid.height - 1 > ROWS or cell[2] + grid.width - 1 > COLUMNS:
            return Fault("SPILL")
        for other in cells_of(rect_from(cell, grid.height, grid.width)):
            if other != cell and (other in self.mesh.contents or other in self.owners):
                return Fault("SPILL")
        return made_grid(tuple([tuple([not_blank(value) for value in row]) for row in grid.rows]), None)

    def _work_all(self, cells):
        """Works some formulas, and all on which they hang; an error if one of them is not told."""
        for cell in self.flow.to_work(cells, self.rows):
            self._work_one(cell)
        for cell in cells:
            if cell in self.failed:
                raise_failure(self.failed[cell])

    def _work_one(self, cell):
        """Works a formula, if all on which it hangs are worked."""
        sources = self.flow.sources[cell]
        failures = [self.failed[other] for other in sources if other in self.failed]
        row = None
        if not failures:
            try:
                work = FormulaWork(self, cell, self.mesh.contents[cell], self.mesh.sights[cell])
                row = self._worked(work, sources + self.flow.held.get(cell, []))
            except NotTold:
                failures.append(0)
            except TooHigh as error:
                failures.append(error.most)
        if failures:
            self.failed[cell] = failures[0]
        self._keep(cell, row)

    def _worked(self, work, cells):
        """The Row of a formula that is worked with what some cells have."""
        turning = []
        # Values that do not turn are taken once; spills each time, as others may spill into the same cells elsewhere.
        grids = []
        for cell in cells:
            row = self.rows.get(cell)
            if row is None:
                continue
            if not row.is_constant:
                turning.append(cell)
            elif row.has_grid():
                grids.append(cell)
            else:
                self.known[cell] = row.spans[0]
        work.use([(cell, self.rows[cell]) for cell in turning + grids])
        if not turning:
            return level_row(work.told_level())
        return worked_row(self.ruler, all_marks([self.rows[cell] for cell in turning]), work)

    def _keep(self, cell, row):
        """Keeps the Row of a cell."""
        self.rows[cell] = row


class FormulaWork:
    """A formula that is worked in a cell, on spans and at marks."""

    def __init__(self, tracks, cell, formula, sight):
        self.tracks = tracks
        self.cell = cell
        self.formula = formula
        self.sight = sight
        self.inputs = []

    def use(self, inputs):
        """Tells the pairs of cells and Rows that are to be taken each time."""
        self.inputs = inputs

    def told_level(self):
        """What it tells where nothing turns."""
        self.tracks.forget_taken()
        for cell, row in self.inputs:
            self.tracks.take(cell, row.spans[0])
        return self._told()

    def told_on(self, first, last):
        """What it tells on the span between two marks."""
        self.tracks.forget_taken()
        for cell, row in self.inputs:
            self.tracks.take(cell, row.thing_on(self.tracks.ruler, first, last))
        return self._told()

    def told_at(self, mark):
        """What it tells at a mark."""
        self.tracks.forget_taken()
        for cell, row in self.inputs:
            self.tracks.take(cell, row.thing_at(self.tracks.ruler, mark))
        return self._told()

    def _told(self):
        """What it tells by what was taken."""
        return self.tracks.work_at(self.cell, self.formula, self.sight)


class PartWork:
    """The value of a cell among those that some formulas tell: of the first one of these that spills into it.

    pairs are those of the cells of the formulas, in order, and their Rows.
    """

    def __init__(self, ruler, cell, pairs):
        self.ruler = ruler
        self.cell = cell
        self.pairs = pairs

    def told_on(self, first, last):
        """The value on the span between two marks."""
        for other, row in self.pairs:
            thing = row.thing_behind(first)
            if self._has_part(other, thing):
                return thing_on(self._part(other, thing), self.ruler, first, last)
        return None

    def told_at(self, mark):
        """The value at a mark."""
        for other, row in self.pairs:
            thing, is_there = row.thing_near(self.ruler, mark)
            if self._has_part(other, thing):
                part = self._part(other, thing)
                return part if is_there else thing_at(part, mark.point)
        return None

    def _has_part(self, other, thing):
        """Whether a formula that tells a thing gives the cell its value."""
        if not isinstance(thing, Grid):
            return other == self.cell
        return has_cell(rect_from(other, thing.height, thing.width), self.cell)

    def _part(self, other, thing):
        """The value that a formula that tells a thing gives the cell."""
        if not isinstance(thing, Grid):
            return thing
        return thing.rows[self.cell[1] - other[1]][self.cell[2] - other[2]]


def raise_failure(failure):
    """Raises what was kept of an error: NotTold for 0, otherwise TooHigh."""
    if failure == 0:
        raise NotTold()
    raise TooHigh(failure)
