"""Functions: finding."""

from allinputs.criteria import is_fit, pattern_of
from allinputs.grids import MOST_VALUES, Grid, grid_of, is_line
from allinputs.operators import checked
from allinputs.ordering import known_order
from allinputs.places import first_fault, first_fault_within, given, ready, whole_within
from allinputs.ratios import Ratio
from allinputs.totals import sum_by_bottoms, sum_of_numbers
from allinputs.values import Fault, is_number, known_kind


def _turned(letters, things):
    """The arguments turned, or the Fault that is the result instead; a blank that is looked for is 0."""
    told = ready(letters, things)
    if isinstance(told, Fault) or told[0] is not None:
        return told
    return [Ratio(0)] + told[1:]


def first_equal(value, cells):
    """The place, from 0 on, of the first of some values of the kind of a value that equals it; None without one."""
    kind = known_kind(value)
    for at, cell in enumerate(cells):
        if known_kind(cell) == kind and known_order(cell, value) == 0:
            return at
    return None


def first_fitting(value, cells):
    """The same, but a text is a pattern that the text must fit."""
    if not isinstance(value, str):
        return first_equal(value, cells)
    pattern = pattern_of(value)
    for at, cell in enumerate(cells):
        if isinstance(cell, str) and is_fit(cell, pattern):
            return at
    return None


def near_place(value, cells, side):
    """The place of the last value of the kind of a value that is passed on the way to the first one beyond it.

    One beyond is greater if side is 1, less if side is -1. None if no value is passed.
    """
    kind = known_kind(value)
    near = None
    for at, cell in enumerate(cells):
        if known_kind(cell) == kind:
            if known_order(cell, value) == side:
                return near
            near = at
    return near


def _nearest(value, cells, side):
    """The place of the greatest lesser value of the kind of a value if side is -1, of the least greater one if 1."""
    kind = known_kind(value)
    near = None
    for at, cell in enumerate(cells):
        if known_kind(cell) == kind and known_order(cell, value) == side:
            if near is None or known_order(cell, cells[near]) == -side:
                near = at
    return near


def _match(things):
    """MATCH."""
    told = _turned("vgx", things)
    if isinstance(told, Fault):
        return told
    value, grid, way = told[0], told[1], given(told, 2, Ratio(1)).sign()
    if not is_line(grid):
        return Fault("NA")
    at = first_fitting(value, grid.cells()) if way == 0 else near_place(value, grid.cells(), way)
    return Fault("NA") if at is None else Ratio(at + 1)


def _look_up_in_column(things):
    """VLOOKUP."""
    return _look_up_in(things, False)


def _look_up_in_row(things):
    """HLOOKUP."""
    return _look_up_in(things, True)


def _look_up_in(things, is_turned):
    """The value beside a place of the first column, or the first row if that is turned, or a Fault."""
    told = _turned("vgip", things)
    if isinstance(told, Fault):
        return told
    grid = told[1].turned() if is_turned else told[1]
    column = whole_within(told[2], 1, grid.width + 1)
    if column < 1 or column > grid.width:
        return Fault("VALUE" if column < 1 else "REF")
    cells = grid.one_column(1).cells()
    is_near = given(told, 3, True)
    at = near_place(told[0], cells, 1) if is_near else first_fitting(told[0], cells)
    return Fault("NA") if at is None else grid.value_at(at + 1, column)


def _look_up(things):
    """LOOKUP."""
    told = _turned("vgh", things)
    if isinstance(told, Fault):
        return told
    cells, results = told[1].cells(), told[-1].cells()
    if not is_line(told[1]) or not is_line(told[-1]) or len(cells) != len(results):
        return Fault("NA")
    at = near_place(told[0], cells, 1)
    return Fault("NA") if at is None else results[at]


def _look_up_by(things):
    """XLOOKUP."""
    fault = first_fault([thing for at, thing in enumerate(things) if at != 3])
    told = _turned("vghai", things[:3] + [True] + things[4:]) if fault is None else fault
    if isinstance(told, Fault):
        return told
    value, grid, results = told[0], told[1], told[2]
    way = whole_within(given(told, 4, Ratio(0)), -1, 3)
    is_column = grid.width == 1
    is_alike = grid.height == results.height if is_column else grid.width == results.width
    if not is_line(grid) or way < -1 or way > 2 or not is_alike:
        return Fault("VALUE")
    cells = grid.cells()
    at = first_fitting(value, cells) if way == 2 else first_equal(value, cells)
    if at is None and way in (-1, 1):
        at = _nearest(value, cells, way)
    if at is not None:
        return _alone(results.one_row(at + 1) if is_column else results.one_column(at + 1))
    if len(things) < 4:
        return Fault("NA")
    return Grid(things[3].rows) if isinstance(things[3], Grid) else things[3]


def _alone(grid):
    """The value of a grid of one value, any other grid as it is."""
    return grid.rows[0][0] if grid.height == 1 and grid.width == 1 else grid


def _index(things):
    """INDEX."""
    told = ready("gij", things)
    if isinstance(told, Fault):
        return told
    grid = told[0]
    if len(told) < 3 and is_line(grid):
        return _at_place(grid, told[1])
    row = whole_within(told[1], 0, grid.height + 1)
    column = whole_within(given(told, 2, Ratio(0)), 0, grid.width + 1)
    if row < 0 or column < 0:
        return Fault("VALUE")
    if row > grid.height or column > grid.width:
        return Fault("REF")
    rows = grid.rows if row == 0 else (grid.rows[row - 1],)
    return _alone(Grid(rows if column == 0 else [(cells[column - 1],) for cells in rows]))


def _at_place(grid, number):
    """The value at a place of a line, all of it for 0, or a Fault."""
    cells = grid.cells()
    at = whole_within(number, 0, len(cells) + 1)
    if at < 0 or at > len(cells):
        return Fault("VALUE" if at < 0 else "REF")
    return _alone(Grid(grid.rows)) if at == 0 else cells[at - 1]


def row_of(things, here):
    """The rows of a grid, or that of the cell that calls."""
    return _numbers_from(things, here, 0)


def column_of_grid(things, here):
    """The columns of a grid, or that of the cell that calls."""
    return _numbers_from(things, here, 1)


def _numbers_from(things, here, side):
    """The numbers of the rows of a grid, of its columns if side is 1."""
    if not things:
        return Ratio(here[side])
    fault = first_fault(things)
    if fault is not None:
        return fault
    grid = grid_of(things[0])
    if grid.corner is None:
        return Fault("VALUE")
    many = grid.width if side == 1 else grid.height
    numbers = tuple([Ratio(grid.corner[side] + at) for at in range(many)])
    if many == 1:
        return numbers[0]
    return Grid([numbers]) if side == 1 else Grid([(number,) for number in numbers])


def _of_grid(things, action):
    """What a function tells for one grid."""
    fault = first_fault(things)
    return action(grid_of(things[0])) if fault is None else fault


def _rows(things):
    """ROWS."""
    return _of_grid(things, _height_of_grid)


def _height_of_grid(grid):
    """The height as a number."""
    return Ratio(grid.height)


def _columns(things):
    """COLUMNS."""
    return _of_grid(things, _width_of_grid)


def _width_of_grid(grid):
    """The width as a number."""
    return Ratio(grid.width)


def _transposed(things):
    """TRANSPOSE."""
    return _of_grid(things, _turned_grid)


def _turned_grid(grid):
    """The grid with rows and columns exchanged."""
    return grid.turned()


def _matrix_product(things):
    """MMULT."""
    fault = first_fault_within(things)
    if fault is not None:
        return fault
    one, other = grid_of(things[0]), grid_of(things[1])
    if one.width != other.height or not all([is_number(value) for value in one.cells() + other.cells()]):
        return Fault("VALUE")
    if one.height * other.width > MOST_VALUES:
        return Fault("NUM")
    columns = other.turned().rows
    return Grid([tuple([_dot(row, column) for column in columns]) for row in one.rows])


def _dot(row, column):
    """The sum of the products of two rows of numbers, one by one."""
    tops = {}
    others = []
    for one, other in zip(row, column):
        if isinstance(one, Ratio) and isinstance(other, Ratio):
            bottom = one.bottom * other.bottom
            tops[bottom] = tops.get(bottom, 0) + one.top * other.top
        else:
            others.append(one * other)
    return checked(sum_of_numbers(others + [sum_by_bottoms(tops)]))


FINDING = {
    "MATCH": _match, "VLOOKUP": _look_up_in_column, "HLOOKUP": _look_up_in_row, "LOOKUP": _look_up,
    "XLOOKUP": _look_up_by, "INDEX": _index, "ROWS": _rows, "COLUMNS": _columns, "TRANSPOSE": _transposed,
    "MMULT": _matrix_product,
}
