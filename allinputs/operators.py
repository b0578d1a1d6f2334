"""Signs of operation."""

from allinputs.errors import BadValue, TooHigh
from allinputs.grids import Grid
from allinputs.ordering import known_order
from allinputs.places import first_fault, text_told, turned_places, whole_within
from allinputs.ratios import Ratio
from allinputs.turning import to_number
from allinputs.values import Fault, check_value
from allinputs.wholes import MOST_DIGITS, is_long

OPERATORS = ("+", "-", "*", "/", "^", "&", "=", "<>", "<", "<=", ">", ">=")

_ORDERS = {"=": (0,), "<>": (-1, 1), "<": (-1,), "<=": (-1, 0), ">": (1,), ">=": (1, 0)}

MOST_EXPONENT = 64


def operate(sign, one, other):
    """The value that a sign of operation tells for two values."""
    if not isinstance(sign, str) or sign not in OPERATORS:
        raise BadValue(sign)
    check_value(one)
    check_value(other)
    return operated(sign, one, other)


def negated(value):
    """The negative of the number into which a value is turned, or the Fault."""
    number = to_number(value)
    return number if isinstance(number, Fault) else checked(-number)


def operated(sign, one, other):
    """What operate tells, of what is known to be a sign and two values."""
    fault = first_fault((one, other))
    if fault is not None:
        return fault
    if sign in _ORDERS:
        return known_order(one, other) in _ORDERS[sign]
    if sign == "&":
        return _together(one, other)
    numbers = turned_places("xy", (one, other))
    if isinstance(numbers, Fault):
        return numbers
    left, right = numbers
    if sign == "+":
        return checked(left + right)
    if sign == "-":
        return checked(left - right)
    if sign == "*":
        return checked(left * right)
    return checked(quotient(left, right) if sign == "/" else power_of(left, right))


def quotient(one, other):
    """One number by another one, or the fault DIV."""
    if other.sign() == 0:
        return Fault("DIV")
    return one * other.inverse()


def power_of(number, exponent):
    """A number to the power of another one, or a Fault."""
    whole = whole_within(exponent, -MOST_EXPONENT, MOST_EXPONENT + 1)
    if abs(whole) > MOST_EXPONENT or (exponent - whole).sign() != 0:
        return Fault("NUM")
    if whole > 0:
        return number.power(whole)
    if number.sign() == 0:
        return Fault("NUM" if whole == 0 else "DIV")
    return number.power(whole)


def checked(result):
    """A value or a grid as it is, if it holds no ratio of too many digits."""
    for value in result.cells() if isinstance(result, Grid) else (result,):
        if isinstance(value, Ratio) and (is_long(value.top) or is_long(value.bottom)):
            raise TooHigh(MOST_DIGITS)
    return result


def _together(one, other):
    """The text of one value and behind it that of another one, or a Fault."""
    texts = turned_places("st", (one, other))
    return texts if isinstance(texts, Fault) else text_told(texts[0] + texts[1])
