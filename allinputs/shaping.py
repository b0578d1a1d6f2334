"""Functions: arranging."""

from allinputs.arranging import arranged
from allinputs.grids import MOST_VALUES, Grid
from allinputs.ordering import small_letters, sort_order
from allinputs.places import first_fault, given, ready, whole_within
from allinputs.ratios import Ratio
from allinputs.turning import to_truth
from allinputs.values import Fault, is_number, same


def alike(one, other):
    """Whether two values are the same but for capitals."""
    if isinstance(one, str) and isinstance(other, str):
        return small_letters(one) == small_letters(other)
    return same(one, other)


def arranged_by(pairs, is_down):
    """A list of pairs of a value and something else in the order of sorting of the values; or against it."""
    return arranged(pairs, _pairs_downwards if is_down else _pairs_upwards)


def _pairs_upwards(one, other):
    """The order of sorting of the values of two pairs."""
    return sort_order(one[0], other[0])


def _pairs_downwards(one, other):
    """The order against it, but blanks last."""
    if one[0] is None or other[0] is None:
        return sort_order(one[0], other[0])
    return sort_order(other[0], one[0])


def first_alike_rows(rows):
    """The list of the rows, tuples of values, without those that are alike to an earlier one."""
    kept = []
    special = []
    seen = {}
    for row in rows:
        key = _key_of(row)
        peers = kept if key is None else special
        if (key is not None and key in seen) or any([_are_alike(row, peer) for peer in peers]):
            continue
        kept.append(row)
        if key is None:
            special.append(row)
        else:
            seen[key] = True
    return kept


def _key_of(row):
    """A key that alike rows share, None for a row with a number that is no told ratio."""
    key = []
    for value in row:
        if isinstance(value, Ratio):
            key.append(("number", value.top, value.bottom))
        elif isinstance(value, str):
            key.append(("text", small_letters(value)))
        elif isinstance(value, Fault):
            key.append(("fault", value.kind))
        elif is_number(value):
            return None
        else:
            key.append(("truth", "none" if value is None else str(value)))
    return tuple(key)


def _are_alike(row, peer):
    """Whether two rows are alike; of their values no more are asked than needed."""
    for one, other in zip(row, peer):
        if not alike(one, other):
            return False
    return True


def _sort(things):
    """SORT."""
    told = ready("gixp", things)
    if isinstance(told, Fault):
        return told
    is_turned = given(told, 3, False)
    grid = told[0].turned() if is_turned else told[0]
    column = whole_within(given(told, 1, Ratio(1)), 1, grid.width + 1)
    way = given(told, 2, Ratio(1))
    is_down = (way + 1).sign() == 0
    if column < 1 or column > grid.width or (not is_down and (way - 1).sign() != 0):
        return Fault("VALUE")
    rows = arranged_by([(row[column - 1], row) for row in grid.rows], is_down)
    result = Grid([row for _, row in rows])
    return result.turned() if is_turned else result


def _unique(things):
    """UNIQUE."""
    told = ready("gp", things)
    if isinstance(told, Fault):
        return told
    if given(told, 1, False):
        return Grid(first_alike_rows(told[0].turned().rows)).turned()
    return Grid(first_alike_rows(told[0].rows))


def _filter(things):
    """FILTER."""
    told = ready("gh", things[:2])
    if isinstance(told, Fault):
        return told
    grid, marks = told
    is_turned = marks.width != 1 or marks.height != grid.height
    if is_turned and (marks.height != 1 or marks.width != grid.width):
        return Fault("VALUE")
    truths = [to_truth(value) for value in marks.cells()]
    fault = first_fault(truths)
    if fault is not None:
        return fault
    lines = grid.turned().rows if is_turned else grid.rows
    left = [line for line, truth in zip(lines, truths) if truth]
    if left:
        return Grid(left).turned() if is_turned else Grid(left)
    if len(things) < 3:
        return Fault("NA")
    return Grid(things[2].rows) if isinstance(things[2], Grid) else things[2]


def _sequence(things):
    """SEQUENCE."""
    told = ready("ijxy", things)
    if isinstance(told, Fault):
        return told
    rows = whole_within(told[0], 1, MOST_VALUES + 1)
    columns = whole_within(given(told, 1, Ratio(1)), 1, MOST_VALUES + 1)
    if rows < 1 or columns < 1:
        return Fault("VALUE")
    if rows * columns > MOST_VALUES:
        return Fault("NUM")
    first, step = given(told, 2, Ratio(1)), given(told, 3, Ratio(1))
    return Grid([
        tuple([first + step * (row * columns + column) for column in range(columns)]) for row in range(rows)
    ])


SHAPING = {"SORT": _sort, "UNIQUE": _unique, "FILTER": _filter, "SEQUENCE": _sequence}
