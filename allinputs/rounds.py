"""Rounds: the cells in rings, and the values that all cells have while each of these holds a value of its own."""

from allinputs.book import cell_at
from allinputs.errors import NotAName, NotTold, Unknown
from allinputs.flows import Flow
from allinputs.grids import Grid
from allinputs.holdings import held_with
from allinputs.ratios import Ratio, as_ratio, is_ratio
from allinputs.reaches import ALONE
from allinputs.states import Run, not_blank
from allinputs.values import same


class Rounds:
    """The values at one moment of a book whose rings are gone round.

    placed is told by placed_formulas; begin is a dict from cells in rings to Ratios.
    """

    def __init__(self, held, placed, begin):
        self.placed = placed
        self.ringed = sorted(list(placed))
        self.mesh = mesh_without(held, placed)
        self.flow = Flow(self.mesh, self.ringed, self.placed, self.mesh.sights)
        self.known = {}
        self.run = Run(self.mesh, self.known, {}, {}, {})
        self.run.hold(list(self.mesh.contents))
        for cell, number in begin.items():
            self.known[cell] = number
        # The formulas whose values are right now, and the placed ones that may tell something else than they did.
        self.worked = {}
        self.waiting = {cell: True for cell in self.ringed}

    def value_at(self, cell):
        """The value that a cell has now."""
        self._work_all([cell] if cell in self.mesh.contents else self.mesh.reaching(cell))
        return self.known.get(cell)

    def ringed_values(self):
        """The list of the values of all cells in rings, in order."""
        return [self.known[cell] for cell in self.ringed]

    def set_values(self, values):
        """Makes the cells in rings hold values again that they held before."""
        for cell, value in zip(self.ringed, values):
            self._set_value(cell, value)
        self.waiting = {cell: True for cell in self.ringed}

    def go_round(self):
        """Goes one round more; whether anything changed."""
        is_changed = False
        for cell in self.ringed:
            if cell in self.waiting:
                formula, sight = self.placed[cell]
                self._work_all(self.flow.sources[cell])
                thing = self.run.worker.result_of(formula, cell, sight)
                del self.waiting[cell]
                value = not_blank(thing.rows[0][0] if isinstance(thing, Grid) else thing)
                is_changed = self._set_value(cell, value) or is_changed
        return is_changed

    def _set_value(self, cell, value):
        """Makes a cell in a ring hold a value; whether this is another one."""
        if same(self.known[cell], value):
            return False
        self.known[cell] = value
        formulas, placed = self.flow.behind(cell, self.worked)
        for other in formulas:
            del self.worked[other]
        self.run.forget(list(formulas))
        for other in placed:
            self.waiting[other] = True
        return True

    def _work_all(self, cells):
        """Works some formulas, and all on which they hang."""
        for cell in self.flow.to_work(cells, self.worked):
            self.run.settle(cell, self.run.worker.result_at(cell))
            self.worked[cell] = True


def placed_formulas(mesh):
    """The dict from the cells in rings of a Mesh to pairs of their formulas and Sights."""
    return {cell: (mesh.contents[cell], mesh.sights[cell]) for cell in mesh.sequence().ringed}


def check_gone_round(mesh, placed):
    """A Mesh in which no formula in a ring reaches beyond its cell."""
    for cell in placed:
        if mesh.size_at(cell) != ALONE:
            raise NotTold()


def mesh_without(held, placed):
    """The Mesh of what is held if the cells in rings hold numbers."""
    return held_with(held, {cell: Ratio(0) for cell in placed}).mesh_by(held)


def is_begin(begin):
    """Whether something is a dict from strings to Ratios."""
    if not isinstance(begin, dict):
        return False
    return all([isinstance(place, str) and is_ratio(number) for place, number in begin.items()])


def begin_of(book, begin):
    """A dict of numbers at the beginning, by cells in the place of places; None if two are one cell, or no cell."""
    told = {}
    for place, number in begin.items():
        try:
            cell = cell_at(book, place)
        except (NotAName, Unknown):
            return None
        if cell in told:
            return None
        told[cell] = as_ratio(number)
    return told
