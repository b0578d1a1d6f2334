"""Grids: tables of values."""

from allinputs.checks import check_list, check_range, is_integer
from allinputs.errors import BadValue
from allinputs.values import is_value

MOST_VALUES = 10000


class Grid:
    """A table of values; the corner tells where it lies, if it is the grid of an area of cells."""

    def __init__(self, rows, corner=None):
        check_list(rows)
        for row in rows:
            if not _is_row(row):
                raise BadValue(row)
        if not _is_table(rows):
            raise BadValue(rows)
        if corner is not None and not is_corner(corner):
            raise BadValue(corner)
        self.rows = tuple([tuple(row) for row in rows])
        self.height = len(self.rows)
        self.width = len(self.rows[0])
        self.corner = None if corner is None else tuple(corner)

    def __eq__(self, other):
        return isinstance(other, Grid) and self.rows == other.rows

    def value_at(self, row, column):
        """The value in a row and a column, both told from 1 on."""
        check_range(row, 1, self.height)
        check_range(column, 1, self.width)
        return self.rows[row - 1][column - 1]

    def one_row(self, row):
        """The grid of one row."""
        check_range(row, 1, self.height)
        return made_grid((self.rows[row - 1],), None)

    def one_column(self, column):
        """The grid of one column."""
        check_range(column, 1, self.width)
        return made_grid(tuple([(row[column - 1],) for row in self.rows]), None)

    def cells(self):
        """The tuple of all values, row by row."""
        return tuple([value for row in self.rows for value in row])

    def turned(self):
        """The grid with rows and columns exchanged."""
        columns = range(self.width)
        return made_grid(tuple([tuple([row[at] for row in self.rows]) for at in columns]), None)


def made_grid(rows, corner):
    """The Grid of a tuple of tuples that are known to be rows of values: they are not looked at again."""
    grid = Grid(((None,),))
    grid.rows = rows
    grid.height = len(rows)
    grid.width = len(rows[0])
    grid.corner = corner
    return grid


def grid_of(thing):
    """A Grid as it is; a value as the Grid of this value alone."""
    if isinstance(thing, Grid):
        return thing
    if not is_value(thing):
        raise BadValue(thing)
    return Grid([(thing,)])


def is_line(grid):
    """Whether a Grid has one row or one column."""
    check_grid(grid)
    return grid.height == 1 or grid.width == 1


def check_grid(value):
    """A Grid."""
    if not isinstance(value, Grid):
        raise BadValue(value)


def _is_row(row):
    """Whether something is a row: a tuple of at least one value, or a list passed for one."""
    if not isinstance(row, (list, tuple)) or len(row) == 0:
        return False
    return all([is_value(value) for value in row])


def _is_table(rows):
    """Whether rows make up a grid: at least one, all of one length, not too many values in all."""
    if len(rows) == 0 or len(rows) * len(rows[0]) > MOST_VALUES:
        return False
    return all([len(row) == len(rows[0]) for row in rows])


def is_corner(corner):
    """Whether something is a pair of integers from 1 on."""
    if not isinstance(corner, (list, tuple)) or len(corner) != 2:
        return False
    return all([is_integer(part) and part >= 1 for part in corner])
