"""The functions of formulas: how they are called."""

from allinputs.amounts import AMOUNTS
from allinputs.checks import check_list, is_integer
from allinputs.choices import CHOOSING, TRUTHS, chosen, next_needed
from allinputs.counts import COUNTS
from allinputs.days import DAYS
from allinputs.errors import BadValue
from allinputs.finding import FINDING, column_of_grid, row_of
from allinputs.grids import Grid, is_corner
from allinputs.operators import checked
from allinputs.shaping import SHAPING
from allinputs.signatures import check_function, check_many, is_taken, letters_for, sort_of_letter
from allinputs.totals import TOTALS
from allinputs.values import is_value
from allinputs.wording import WORDING


def call(name, arguments, *, here=(1, 1)):
    """What a function tells for arguments, called by the cell in a row and a column."""
    check_function(name)
    _check_arguments(name, arguments)
    if not is_corner(here):
        raise BadValue(here)
    return called(name, list(arguments), here)


def wanted(name, many, known):
    """The number of the argument to be worked next, None if the result needs no more."""
    check_function(name)
    check_many(name, many)
    if not _is_known(many, known):
        raise BadValue(known)
    return next_wanted(name, many, known)


def called(name, things, here):
    """What call tells, of what is known to be a list of arguments that the function takes."""
    if name in CHOOSING:
        return checked(chosen(name, len(things), {at: thing for at, thing in enumerate(things)}))
    if name == "ROW":
        return row_of(things, here)
    if name == "COLUMN":
        return column_of_grid(things, here)
    action = _action_of(name)
    return checked(action(things))


def called_by(name, many, known, here):
    """The same for a dict of the arguments that the result needs, by their numbers."""
    if name in CHOOSING and not _has_grid(name, many, known):
        return checked(chosen(name, many, known))
    return called(name, [known[at] for at in range(many)], here)


def next_wanted(name, many, known):
    """What wanted tells, of what is known to be right."""
    if name in CHOOSING and not _has_grid(name, many, known):
        return next_needed(name, many, known)
    for at in range(many):
        if at not in known:
            return at
    return None


def _action_of(name):
    """What works a function that is no choice and does not need the cell that calls."""
    if name in TOTALS:
        return TOTALS[name]
    if name in COUNTS:
        return COUNTS[name]
    if name in AMOUNTS:
        return AMOUNTS[name]
    if name in TRUTHS:
        return TRUTHS[name]
    if name in FINDING:
        return FINDING[name]
    if name in SHAPING:
        return SHAPING[name]
    return DAYS[name] if name in DAYS else WORDING[name]


def _has_grid(name, many, known):
    """Whether a known argument at a single place is a Grid."""
    letters = letters_for(name, many)
    return any([
        isinstance(thing, Grid) and sort_of_letter(letters[at]) == "single" for at, thing in known.items()
    ])


def _check_arguments(name, arguments):
    """A list of values and Grids, as many as a function takes, no Grid at a single place."""
    check_list(arguments)
    for thing in arguments:
        if not isinstance(thing, Grid) and not is_value(thing):
            raise BadValue(thing)
    if not is_taken(name, len(arguments)):
        raise BadValue(arguments)
    for letter, thing in zip(letters_for(name, len(arguments)), arguments):
        if isinstance(thing, Grid) and sort_of_letter(letter) == "single":
            raise BadValue(thing)


def _is_known(many, known):
    """Whether something is a dict from numbers of arguments to values and Grids."""
    if not isinstance(known, dict):
        return False
    for at, thing in known.items():
        if not is_integer(at) or at < 0 or at >= many or not (isinstance(thing, Grid) or is_value(thing)):
            return False
    return True
