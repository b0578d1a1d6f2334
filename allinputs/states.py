"""States of books: the values that follow from what they hold. A State does not change."""

from allinputs.addresses import COLUMNS, ROWS
from allinputs.chains import in_turn, parted
from allinputs.errors import TooHigh
from allinputs.evaluating import Worker
from allinputs.grids import Grid
from allinputs.holdings import unlike
from allinputs.ratios import Ratio
from allinputs.rects import cells_of, rect_from
from allinputs.values import Fault


class State:
    """The values that follow from what a book holds."""

    def __init__(self, held, run):
        self.held = held
        # Dicts from cells: to values; to the sizes of spills; to the formulas that spill into them; and those of the
        # formulas without values to True.
        self.known = run.known
        self.spills = run.spills
        self.owners = run.owners
        self.failed = run.failed

    def has_value(self, cell):
        """Whether a cell has a value, maybe a blank."""
        if cell in self.failed:
            return False
        if not self.failed or cell in self.held.contents:
            return True
        return not any([other in self.failed for other in self.held.mesh.reaching(cell)])


class Run:
    """Formulas that are worked anew, on top of what is known of all others."""

    def __init__(self, mesh, known, spills, owners, failed):
        self.mesh = mesh
        self.known = known
        self.spills = spills
        self.owners = owners
        self.failed = failed
        # The formulas that hang on one without a value.
        self.barred = {}
        self.worker = Worker(mesh, known, spills)

    def forget(self, cells):
        """Takes out what some cells hold, and what they spill."""
        for cell in cells:
            if cell in self.spills:
                height, width = self.spills.pop(cell)
                for other in cells_of(rect_from(cell, height, width)):
                    if self.owners.get(other) == cell:
                        del self.owners[other]
                        self.known.pop(other, None)
            self.known.pop(cell, None)
            self.failed.pop(cell, None)

    def hold(self, cells):
        """Takes in what some cells hold that is no formula."""
        for cell in cells:
            content = self.mesh.contents.get(cell)
            if content is not None and not isinstance(content, tuple):
                self.known[cell] = content

    def work(self, edges):
        """Works formulas, told as a dict to the lists of those that hang on them."""
        for cell in self.failed:
            for other in self.mesh.hanging_on(cell):
                self.barred[other] = True
        ringed, rest = parted(edges)
        for cell in ringed:
            self.known[cell] = Fault("RING")
        for cell in in_turn(rest):
            self._work_one(cell, rest[cell])

    def _work_one(self, cell, others):
        """Works a formula on which others hang."""
        thing = None
        is_told = cell not in self.barred
        if is_told:
            try:
                thing = self.worker.result_at(cell)
            except TooHigh:
                is_told = False
        if is_told:
            self.settle(cell, thing)
            return
        self.failed[cell] = True
        for other in others:
            self.barred[other] = True

    def settle(self, cell, thing):
        """Gives the cell, and those into which it spills, the values of what its formula tells."""
        if not isinstance(thing, Grid):
            self.known[cell] = not_blank(thing)
            return
        if thing.height * thing.width == 1:
            self.known[cell] = not_blank(thing.rows[0][0])
            return
        sheet, top, left = cell
        if top + thing.height - 1 > ROWS or left + thing.width - 1 > COLUMNS:
            self.known[cell] = Fault("SPILL")
            return
        cells = cells_of(rect_from(cell, thing.height, thing.width))
        if any([other != cell and (other in self.mesh.contents or other in self.owners) for other in cells]):
            self.known[cell] = Fault("SPILL")
            return
        self.spills[cell] = (thing.height, thing.width)
        for other, value in zip(cells, thing.cells()):
            self.known[other] = not_blank(value)
            if other != cell:
                self.owners[other] = cell


def fresh_state(held):
    """The State of what a book holds, all formulas worked."""
    mesh = held.mesh_by(None)
    run = Run(mesh, {}, {}, {}, {})
    run.hold(list(held.contents))
    run.work({cell: mesh.hanging_on(cell) for cell in mesh.sights})
    return State(held, run)


def state_behind(state, held):
    """The State of what a book holds, by that of what it held before."""
    old = state.held
    mesh = held.mesh_by(old)
    cells = unlike(old.texts, held.texts)
    # Where most of it is new it takes longer to find what is not touched.
    if old.tabs != held.tabs or len(cells) * 2 > len(held.contents):
        return fresh_state(held)
    edges = touched(old, held)
    run = Run(mesh, _copied(state.known), _copied(state.spills), _copied(state.owners), _copied(state.failed))
    run.forget(cells + list(edges))
    run.hold(cells)
    run.work(edges)
    return State(held, run)


def worked_in_turn(edges):
    """The list of formulas, told as a dict to the lists of those that hang on them, in the order of working."""
    ringed, rest = parted(edges)
    return sorted(list(ringed)) + in_turn(rest)


def touched(old, held):
    """The formulas that a change touches, as a dict to the lists of those that hang on them behind it.

    old and held are what the book held ahead of the change and behind it.
    """
    behind = held.mesh_by(old)
    if old.tabs != held.tabs:
        return {cell: behind.hanging_on(cell) for cell in behind.sights}
    cells, names = unlike(old.texts, held.texts), unlike(old.name_texts, held.name_texts)
    return touched_between(old.mesh_by(held), behind, cells, names)


def touched_between(before, behind, cells, names):
    """The same for the Meshes ahead of a change of cells and names and behind it."""
    queue = list(_first_touched(before, behind, cells, names))
    edges = {}
    while queue:
        cell = queue.pop()
        if cell in behind.sights and cell not in edges:
            edges[cell] = behind.hanging_on(cell)
            queue.extend(edges[cell])
            if cell in before.sights:
                queue.extend(before.hanging_on(cell))
    return edges


def _first_touched(before, behind, cells, names):
    """The list of the cells that a change of some cells and names touches at once."""
    queue = list(cells)
    for mesh in (before, behind):
        for cell in cells:
            queue.extend(mesh.hanging_on(cell) + mesh.reaching(cell))
        if names:
            queue.extend([cell for cell, sight in mesh.sights.items() if any([name in sight.used for name in names])])
    return queue


def not_blank(value):
    """A value as it is, 0 for a blank."""
    return Ratio(0) if value is None else value


def _copied(table):
    """A copy of a dict with cells as keys."""
    return {cell: table[cell] for cell in table}
