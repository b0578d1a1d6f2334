"""Functions: arranging."""

from allinputs.alikerows import first_alike_rows
from allinputs.arranging import arranged
from allinputs.grids import MOST_VALUES, Grid
from allinputs.ordering import sort_order
from allinputs.places import first_fault, given, ready, whole_within
from allinputs.ratios import Ratio
from allinputs.turning import to_truth
from allinputs.values import Fault


def arranged_by(pairs, is_down):
    """A list of pairs of a value and something else in the order of sorting of the values; or against it."""
    return arranged(pairs, _pairs_downwards if is_down else _pairs_upwards)


def _pairs_upwards(one, other):
    """The order of sorting of the values of two pairs."""
    return sort_order(one[0], other[0])


def _pairs_downwards(one, other):
    """The order against it, but blanks last."""
    if one[0] is None or other[0] is None:
        return sort_order(one[0], other[0])
    return sort_order(other[0], one[0])


def _sort(things):
    """SORT."""
    told = ready("gixp", things)
    if isinstance(told, Fault):
        return told
    is_turned = given(told, 3, False)
    grid = told[0].turned() if is_turned else told[0]
    column = whole_within(given(told, 1, Ratio(1)), 1, grid.width + 1)
    way = given(told, 2, Ratio(1))
    is_down = (way + 1).sign() == 0
    if column < 1 or column > grid.width or (not is_down and (way - 1).sign() != 0):
        return Fault("VALUE")
    rows = arranged_by([(row[column - 1], row) for row in grid.rows], is_down)
    result = Grid([row for _, row in rows])
    return result.turned() if is_turned else result


def _unique(things):
    """UNIQUE."""
    told = ready("gp", things)
    if isinstance(told, Fault):
        return told
    if given(told, 1, False):
        return Grid(first_alike_rows(told[0].turned().rows)).turned()
    return Grid(first_alike_rows(told[0].rows))


def _filter(things):
    """FILTER."""
    told = ready("gh", things[:2])
    if isinstance(told, Fault):
        return told
    grid, marks = told
    is_turned = marks.width != 1 or marks.height != grid.height
    if is_turned and (marks.height != 1 or marks.width != grid.width):
        return Fault("VALUE")
    truths = [to_truth(value) for value in marks.cells()]
    fault = first_fault(truths)
    if fault is not None:
        return fault
    lines = grid.turned().rows if is_turned else grid.rows
    left = [line for line, truth in zip(lines, truths) if truth]
    if left:
        return Grid(left).turned() if is_turned else Grid(left)
    if len(things) < 3:
        return Fault("NA")
    return Grid(things[2].rows) if isinstance(things[2], Grid) else things[2]


def _sequence(things):
    """SEQUENCE."""
    told = ready("ijxy", things)
    if isinstance(told, Fault):
        return told
    rows = whole_within(told[0], 1, MOST_VALUES + 1)
    columns = whole_within(given(told, 1, Ratio(1)), 1, MOST_VALUES + 1)
    if rows < 1 or columns < 1:
        return Fault("VALUE")
    if rows * columns > MOST_VALUES:
        return Fault("NUM")
    first, step = given(told, 2, Ratio(1)), given(told, 3, Ratio(1))
    return Grid([
        tuple([first + step * (row * columns + column) for column in range(columns)]) for row in range(rows)
    ])


SHAPING = {"SORT": _sort, "UNIQUE": _unique, "FILTER": _filter, "SEQUENCE": _sequence}
