"""Arrays: signs and functions that get grids where values have to stand work once for each place."""

from allinputs.checks import check_list, is_integer
from allinputs.errors import BadValue
from allinputs.functions import called, called_by
from allinputs.grids import MOST_VALUES, Grid, check_grid, made_grid
from allinputs.operators import negated, operated
from allinputs.signatures import letters_for, sort_of_letter
from allinputs.values import Fault


def stretched(grids):
    """The pair of the greatest height and the greatest width of some Grids."""
    check_list(grids)
    for grid in grids:
        check_grid(grid)
    if not grids:
        raise BadValue(grids)
    return _size_of_all(grids)


def part_at(grid, row, column):
    """The value that a Grid gives for a place of the result."""
    check_grid(grid)
    for number in (row, column):
        if not is_integer(number) or number < 1:
            raise BadValue(number)
    return _value_for(grid, row, column)


def single_of(thing):
    """The value of a Grid of one value; any other thing as it is."""
    if isinstance(thing, Grid) and thing.height == 1 and thing.width == 1:
        return thing.rows[0][0]
    return thing


def sign_over(sign, one, other):
    """What a sign of operation tells for values and for grids of several values."""
    if not isinstance(one, Grid) and not isinstance(other, Grid):
        return operated(sign, one, other)
    size = _size_of_all([thing for thing in (one, other) if isinstance(thing, Grid)])
    return _worked_over(size, SignAt(sign, one, other))


def negative_over(thing):
    """The negative of a value, or of each value of a grid."""
    if not isinstance(thing, Grid):
        return negated(thing)
    return made_grid(tuple([tuple([negated(value) for value in row]) for row in thing.rows]), None)


def call_over(name, many, known, here):
    """What a function tells for values and grids, by the numbers of the arguments that it needs."""
    letters = letters_for(name, many)
    sorts = [sort_of_letter(letter) for letter in letters]
    if not any([isinstance(thing, Grid) and sorts[at] == "single" for at, thing in known.items()]):
        return called_by(name, many, known, here)
    spread = [at for at in range(many) if sorts[at] != "wide" and isinstance(known[at], Grid)]
    size = _size_of_all([known[at] for at in spread])
    return _worked_over(size, CallAt(name, [known[at] for at in range(many)], spread, here))


class SignAt:
    """A sign of operation that works once for each place."""

    def __init__(self, word, one, other):
        self.word = word
        self.one = one
        self.other = other

    def told_at(self, row, column):
        """What it tells for a place."""
        return operated(self.word, _thing_for(self.one, row, column), _thing_for(self.other, row, column))


class CallAt:
    """A call that works once for each place; the grids at some places are spread."""

    def __init__(self, name, things, spread, here):
        self.name = name
        self.things = things
        self.spread = spread
        self.here = here

    def told_at(self, row, column):
        """What it tells for a place: of a grid its only value."""
        things = list(self.things)
        for at in self.spread:
            things[at] = _value_for(things[at], row, column)
        told = single_of(called(self.name, things, self.here))
        return Fault("VALUE") if isinstance(told, Grid) else told


def _worked_over(size, work):
    """The Grid of what a work tells for each place, NUM if there are too many."""
    height, width = size
    if height * width > MOST_VALUES:
        return Fault("NUM")
    columns = range(1, width + 1)
    return made_grid(
        tuple([tuple([work.told_at(row, column) for column in columns]) for row in range(1, height + 1)]), None)


def _size_of_all(grids):
    """The pair of the greatest height and the greatest width."""
    return max([grid.height for grid in grids]), max([grid.width for grid in grids])


def _thing_for(thing, row, column):
    """A value as it is, of a Grid the value that it gives for a place."""
    return _value_for(thing, row, column) if isinstance(thing, Grid) else thing


def _value_for(grid, row, column):
    """The value that a Grid gives for a place, or the fault NA."""
    down = 1 if grid.height == 1 else row
    right = 1 if grid.width == 1 else column
    if down > grid.height or right > grid.width:
        return Fault("NA")
    return grid.rows[down - 1][right - 1]
