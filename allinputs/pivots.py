"""Pivots: figures of a grid by the keys of its rows."""

from allinputs.alikerows import AlikeRows
from allinputs.arranging import arranged
from allinputs.checks import check_list, check_range
from allinputs.errors import BadValue, TooMany
from allinputs.functions import called
from allinputs.grids import MOST_VALUES, Grid, check_grid
from allinputs.ordering import sort_order
from allinputs.values import is_value, same

MEASURES = ("SUM", "PRODUCT", "COUNT", "COUNTA", "AVERAGE", "MIN", "MAX", "MEDIAN")


class Pivot:
    """The figures of a measured column of a grid, by keys of row columns and of column columns."""

    def __init__(self, grid, row_columns, column_columns, measured, measure):
        check_grid(grid)
        _check_columns(grid, row_columns, ())
        _check_columns(grid, column_columns, row_columns)
        check_range(measured, 1, grid.width)
        if not isinstance(measure, str) or measure not in MEASURES:
            raise BadValue(measure)
        self.grid = grid
        self.measured = measured
        self.measure = measure
        self.down = Side(grid, row_columns)
        self.across = Side(grid, column_columns)

    def row_keys(self):
        """The list of the row keys, in order."""
        return self.down.keys_in_order()

    def column_keys(self):
        """The list of the column keys, in order."""
        return self.across.keys_in_order()

    def rows_of(self, row_key, column_key):
        """The list of the rows whose own keys are alike to two keys; None stands for all."""
        self._check_keys(row_key, column_key)
        down, across = self.down.has_rows(row_key), self.across.has_rows(column_key)
        return [at + 1 for at in range(self.grid.height) if down[at] and across[at]]

    def figure(self, row_key, column_key):
        """The figure of the members of two keys."""
        return self.figure_of(self.rows_of(row_key, column_key))

    def table(self):
        """The Grid of all figures, with heads above and to the left."""
        above, ahead = max(1, self.across.many), max(1, self.down.many)
        rows, columns = self.down.order + [None], self.across.order + [None]
        if (above + len(rows)) * (ahead + len(columns)) > MOST_VALUES:
            raise TooMany(MOST_VALUES)
        members = self.members_by_places()
        heads = [self.across.heads_of(place, above) for place in columns]
        told = [tuple([None for _ in range(ahead)] + [head[at] for head in heads]) for at in range(above)]
        for place in rows:
            figures = [self.figure_of(members.get((place, other), [])) for other in columns]
            told.append(tuple(self.down.heads_of(place, ahead) + figures))
        return Grid(told)

    def members_by_places(self):
        """A dict from pairs of the places of a row key and a column key, None for all, to the lists of the members."""
        found = {}
        for at in range(self.grid.height):
            first, second = self.down.places[at], self.across.places[at]
            for pair in ((first, second), (first, None), (None, second), (None, None)):
                found.setdefault(pair, []).append(at + 1)
        return found

    def figure_of(self, members):
        """What the measure gives for the measured values of some rows; a blank for none."""
        if not members:
            return None
        values = [(self.grid.rows[row - 1][self.measured - 1],) for row in members]
        return called(self.measure, [Grid(values)], (1, 1))

    def _check_keys(self, row_key, column_key):
        """Two keys, or None in the place of one."""
        for key, side in ((row_key, self.down), (column_key, self.across)):
            if key is not None and not _is_key(key, side.many):
                raise BadValue(key)


class Side:
    """The keys of the rows of a grid for some columns; each key has a place among all that are unlike.

    places has the place of the key of each row, order the places in the order of the keys.
    """

    def __init__(self, grid, columns):
        self.many = len(columns)
        self.groups = AlikeRows()
        self.places = [self.groups.take(tuple([row[column - 1] for column in columns])) for row in grid.rows]
        entries = [(key, place) for place, key in enumerate(self.groups.rows)]
        self.order = [place for _, place in arranged(entries, _order_of_entries)]

    def keys_in_order(self):
        """The list of the keys, in order."""
        return [self.groups.rows[place] for place in self.order]

    def has_rows(self, key):
        """The list of whether the rows have keys that are alike to one; None stands for all."""
        if key is None:
            return [True for _ in self.places]
        place = self.groups.place_of(tuple(key))
        return [place is not None and other == place for other in self.places]

    def heads_of(self, place, many):
        """The list of so many heads of the key with a place, or of all keys for None."""
        if place is None:
            return ["Total"] + [None for _ in range(many - 1)]
        return list(self.groups.rows[place]) if self.many > 0 else [None]


def changes(pivot, other):
    """The list of the figures that are not the same in two Pivots: (row key, column key, figure, other figure)."""
    _check_pivot(pivot)
    _check_pivot(other)
    if pivot.down.many != other.down.many or pivot.across.many != other.across.many:
        raise BadValue(other)
    rows, columns = _together(pivot.down, other.down), _together(pivot.across, other.across)
    members = [pivot.members_by_places(), other.members_by_places()]
    told = []
    for row, column in _pairs_with_members(rows, columns, members):
        found = [side.get((rows[row][at + 1], columns[column][at + 1]), []) for at, side in enumerate(members)]
        figures = pivot.figure_of(found[0]), other.figure_of(found[1])
        if not same(figures[0], figures[1]):
            told.append((rows[row][0], columns[column][0]) + figures)
    return told


def _together(one, other):
    """The list, in order, of the keys of two Sides: triples of a key and its places on both, -1 where it is not."""
    entries = []
    for place in one.order:
        key = one.groups.rows[place]
        peer = other.groups.place_of(key)
        entries.append((key, place, -1 if peer is None else peer))
    for place in other.order:
        key = other.groups.rows[place]
        if one.groups.place_of(key) is None:
            entries.append((key, -1, place))
    return arranged(entries, _order_of_entries)


def _pairs_with_members(rows, columns, members):
    """The list, in order, of the pairs of the numbers of a row and a column that have members in one of two Pivots."""
    found = {}
    for at, side in enumerate(members):
        row_at = {entry[at + 1]: number for number, entry in enumerate(rows)}
        column_at = {entry[at + 1]: number for number, entry in enumerate(columns)}
        for first, second in side:
            if first is not None and second is not None:
                found[(row_at[first], column_at[second])] = True
    return sorted(list(found))


def _order_of_entries(one, other):
    """The order of two tuples that begin with keys: that of the first values in which these differ."""
    for value, peer in zip(one[0], other[0]):
        side = sort_order(value, peer)
        if side != 0:
            return side
    return 0


def _check_pivot(value):
    """A Pivot."""
    if not isinstance(value, Pivot):
        raise BadValue(value)


def _check_columns(grid, columns, others):
    """A list of columns of a grid, all unlike, also to others."""
    check_list(columns)
    for column in columns:
        check_range(column, 1, grid.width)
    if len({column: True for column in list(columns) + list(others)}) < len(columns) + len(others):
        raise BadValue(columns)


def _is_key(key, many):
    """Whether something is a tuple of so many values."""
    if not isinstance(key, (list, tuple)) or len(key) != many:
        return False
    return all([is_value(value) for value in key])
