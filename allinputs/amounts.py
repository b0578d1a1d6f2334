"""Functions: numbers."""

from allinputs.operators import power_of, quotient
from allinputs.places import given, ready, whole_within
from allinputs.ratios import Ratio
from allinputs.values import Fault

MOST_PLACES = 30


def _of_one(things, action):
    """What a function tells for one number."""
    told = ready("x", things)
    return told if isinstance(told, Fault) else action(told[0])


def _of_two(things, action):
    """What a function tells for two numbers."""
    told = ready("xy", things)
    return told if isinstance(told, Fault) else action(told[0], told[1])


def _size(things):
    """ABS."""
    return _of_one(things, size_of_number)


def size_of_number(number):
    """A number without its sign."""
    return -number if number.sign() < 0 else number


def _sign(things):
    """SIGN."""
    return _of_one(things, sign_of_number)


def sign_of_number(number):
    """The sign of a number as a number."""
    return Ratio(number.sign())


def _whole(things):
    """INT."""
    return _of_one(things, whole_of_number)


def whole_of_number(number):
    """The whole part of a number as a number."""
    return Ratio(number.floor())


def _rounded(things):
    """ROUND."""
    return _at_places(things, "near")


def _rounded_up(things):
    """ROUNDUP."""
    return _at_places(things, "away")


def _rounded_down(things):
    """ROUNDDOWN."""
    return _at_places(things, "towards")


def _at_places(things, way):
    """A number rounded to so many decimals, a way, or a Fault."""
    told = ready("xi", things)
    if isinstance(told, Fault):
        return told
    places = whole_within(given(told, 1, Ratio(0)), -MOST_PLACES, MOST_PLACES + 1)
    if abs(places) > MOST_PLACES:
        return Fault("NUM")
    scale = Ratio(10).power(places)
    size = told[0] * scale
    floor = size.floor()
    if (size - floor).sign() == 0:
        return told[0]
    return Ratio(_rounded_whole(size, floor, way)) * scale.inverse()


def _rounded_whole(number, floor, way):
    """One of the two integers beside a number that is none; the lesser one is told."""
    farther = floor if floor < 0 else floor + 1
    if way == "away":
        return farther
    if way == "towards":
        return floor + 1 if floor < 0 else floor
    side = (number - floor - Ratio(1, 2)).sign()
    if side == 0:
        return farther
    return floor if side < 0 else floor + 1


def _left_of_division(things):
    """MOD."""
    return _of_two(things, left_of_numbers)


def left_of_numbers(one, other):
    """What is left of a number by another one, or the fault DIV."""
    many = quotient(one, other)
    return many if isinstance(many, Fault) else one - other * many.floor()


def _quotient(things):
    """QUOTIENT."""
    return _of_two(things, cut_quotient)


def cut_quotient(one, other):
    """A number by another one with its decimals cut off, or the fault DIV."""
    many = quotient(one, other)
    if isinstance(many, Fault):
        return many
    return Ratio(-(-many).floor()) if many.sign() < 0 else Ratio(many.floor())


def _power(things):
    """POWER."""
    return _of_two(things, power_of)


AMOUNTS = {
    "ABS": _size, "SIGN": _sign, "INT": _whole, "ROUND": _rounded, "ROUNDUP": _rounded_up, "ROUNDDOWN": _rounded_down,
    "MOD": _left_of_division, "QUOTIENT": _quotient, "POWER": _power,
}
