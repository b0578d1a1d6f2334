"""Curves: quotients of two polys, in lowest terms."""

from math import gcd

from allinputs.checks import check_integer
from allinputs.commons import common_factor
from allinputs.errors import BadValue, NoDivisor, TooHigh
from allinputs.parts import content_of, quotient_of
from allinputs.polys import Poly, check_poly, poly_of
from allinputs.ratios import Ratio, as_ratio
from allinputs.wholes import digit_text, is_long, whole_power

MOST_DEGREE = 60


class Curve:
    """A quotient of two polys: they have no common factor, the last part of the bottom is above 0."""

    def __init__(self, top, bottom=None):
        check_poly(top)
        if bottom is not None:
            check_poly(bottom)
        below = (1,) if bottom is None else bottom.parts
        if not below:
            raise NoDivisor()
        over, below = _lowest_parts(top.parts, below)
        _check_size(over)
        _check_size(below)
        self.top = poly_of(over)
        self.bottom = poly_of(below)
        # A Ratio on the left of an operator leaves the work to this curve.
        self.beside_ratios = True

    def __eq__(self, other):
        return isinstance(other, Curve) and self.top == other.top and self.bottom == other.bottom

    def __add__(self, other):
        top, bottom = _polys_of(other)
        if bottom == self.bottom:
            return Curve(self.top + top, bottom)
        return Curve(self.top * bottom + top * self.bottom, self.bottom * bottom)

    def __radd__(self, other):
        return self + as_ratio(other)

    def __sub__(self, other):
        top, bottom = _polys_of(other)
        if bottom == self.bottom:
            return Curve(self.top - top, bottom)
        return Curve(self.top * bottom - top * self.bottom, self.bottom * bottom)

    def __rsub__(self, other):
        return -self + as_ratio(other)

    def __mul__(self, other):
        top, bottom = _polys_of(other)
        return Curve(self.top * top, self.bottom * bottom)

    def __rmul__(self, other):
        return self * as_ratio(other)

    def __neg__(self):
        return Curve(-self.top, self.bottom)

    def inverse(self):
        """1 by this curve."""
        if not self.top.parts:
            raise NoDivisor()
        return Curve(self.bottom, self.top)

    def power(self, exponent):
        """This curve to the power of an integer."""
        check_integer(exponent)
        if exponent < 0:
            return self.inverse().power(-exponent)
        if max(self.top.degree(), self.bottom.degree()) * exponent > MOST_DEGREE:
            raise TooHigh(MOST_DEGREE)
        return Curve(_poly_power(self.top, exponent), _poly_power(self.bottom, exponent))

    def is_level(self):
        """Whether there is no x in this curve."""
        return self.top.degree() < 1 and self.bottom.degree() < 1

    def worth_at(self, ratio):
        """What this curve is with a ratio in the place of x."""
        place = as_ratio(ratio)
        below = self.bottom.worth_at(place)
        if below.top == 0:
            raise NoDivisor()
        return self.top.worth_at(place) * below.inverse()


def check_curve(value):
    """A Curve."""
    if not isinstance(value, Curve):
        raise BadValue(value)


def level_ratio(curve):
    """The Ratio that a level curve is."""
    return Ratio(curve.top.parts[0] if curve.top.parts else 0, curve.bottom.parts[0])


def curve_text(curve):
    """The text of a curve, such as "x^2 - 2" or "(x + 1)/(2x)"."""
    check_curve(curve)
    top = _poly_text(curve.top.parts)
    if curve.bottom.parts == (1,):
        return top
    if len([part for part in curve.top.parts if part != 0]) > 1:
        top = f"({top})"
    below = _poly_text(curve.bottom.parts)
    if curve.bottom.degree() > 0:
        below = f"({below})"
    return f"{top}/{below}"


def _lowest_parts(top, bottom):
    """The parts of the top and the bottom of a quotient of polys, in lowest terms."""
    if not top:
        return (), (1,)
    over, below = top, bottom
    shared = common_factor(over, below)
    if len(shared) > 1:
        over, below = quotient_of(over, shared), quotient_of(below, shared)
    factor = gcd(content_of(over), content_of(below))
    if below[-1] < 0:
        factor = -factor
    if factor == 1:
        return over, below
    return [part // factor for part in over], [part // factor for part in below]


def _check_size(parts):
    """Parts of a degree of at most 60, none of more than 3,000 digits."""
    if len(parts) > MOST_DEGREE + 1:
        raise TooHigh(MOST_DEGREE)
    for part in parts:
        if is_long(part):
            raise TooHigh(MOST_DEGREE)


def _polys_of(other):
    """The top and the bottom of the other operand: a Curve, a Ratio or an integer."""
    if isinstance(other, Curve):
        return other.top, other.bottom
    ratio = as_ratio(other)
    return Poly((ratio.top,)), Poly((ratio.bottom,))


def _poly_power(poly, exponent):
    """A poly to the power of an integer from 0 on."""
    if poly.degree() < 1:
        return Poly((whole_power(poly.parts[0] if poly.parts else 0, exponent),))
    result = Poly((1,))
    for _ in range(exponent):
        result = result * poly
    return result


def _poly_text(parts):
    """The terms of a poly, from the greatest power on."""
    told = ""
    for power in range(len(parts) - 1, -1, -1):
        if parts[power] != 0:
            if told:
                told = told + (" - " if parts[power] < 0 else " + ")
            elif parts[power] < 0:
                told = "-"
            told = told + _term_text(abs(parts[power]), power)
    return told if told else "0"


def _term_text(size, power):
    """A number above 0 times a power of x."""
    if power == 0:
        return digit_text(size)
    number = "" if size == 1 else digit_text(size)
    return f"{number}x" if power == 1 else f"{number}x^{power}"
