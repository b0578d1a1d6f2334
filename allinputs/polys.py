"""Polys: polynomials with integers as parts."""

from math import gcd

from allinputs.checks import check_integer, check_list, is_integer
from allinputs.commons import common_factor, plain_parts
from allinputs.errors import BadValue, NoDivisor, NotTold
from allinputs.parts import product_of, quotient_of, slope_of, sum_of, times, top_at, trimmed
from allinputs.ratios import Ratio, as_ratio, lowest_ratio
from allinputs.wholes import digit_text, whole_power


class Poly:
    """A polynomial: its parts are those of 1, x, x * x and so on, without a 0 at the end."""

    def __init__(self, parts):
        check_list(parts)
        for part in parts:
            check_integer(part)
        self.parts = trimmed(parts)

    def __eq__(self, other):
        return isinstance(other, Poly) and self.parts == other.parts

    def __add__(self, other):
        return poly_of(sum_of(self.parts, _parts_beside(other)))

    def __radd__(self, other):
        return poly_of(sum_of(self.parts, _parts_beside(other)))

    def __sub__(self, other):
        return poly_of(sum_of(self.parts, times(_parts_beside(other), -1)))

    def __rsub__(self, other):
        return poly_of(sum_of(_parts_beside(other), times(self.parts, -1)))

    def __mul__(self, other):
        return poly_of(product_of(self.parts, _parts_beside(other)))

    def __rmul__(self, other):
        return poly_of(product_of(self.parts, _parts_beside(other)))

    def __neg__(self):
        return poly_of(times(self.parts, -1))

    def degree(self):
        """The number of the last part, -1 if there is none."""
        return len(self.parts) - 1

    def worth_at(self, ratio):
        """What the poly is with a ratio in the place of x."""
        place = as_ratio(ratio)
        if not self.parts:
            return Ratio(0)
        top = top_at(self.parts, place.top, place.bottom)
        bottom = whole_power(place.bottom, len(self.parts) - 1)
        # Mostly nothing can be cancelled, and this is told much sooner by the bottom of the place alone.
        if gcd(top, place.bottom) == 1:
            return lowest_ratio(top, bottom)
        return Ratio(top, bottom)

    def slope(self):
        """The derivative."""
        return poly_of(slope_of(self.parts))

    def plain(self):
        """The plain poly with the same roots."""
        if not self.parts:
            raise NotTold()
        return poly_of(plain_parts(self.parts))

    def common(self, other):
        """The common factor of this poly and another one."""
        check_poly(other)
        return poly_of(common_factor(self.parts, other.parts))

    def without(self, other):
        """The poly that another one must be multiplied by to give this one."""
        check_poly(other)
        if not other.parts:
            raise NoDivisor()
        quotient = quotient_of(self.parts, other.parts)
        if quotient is None:
            raise NotTold()
        return poly_of(quotient)

    def __repr__(self):
        return f"Poly([{_digits_of(self.parts)}])"


def poly_of(parts):
    """The Poly of parts that are known to be integers."""
    poly = Poly(())
    poly.parts = trimmed(parts)
    return poly


def check_poly(value):
    """A Poly."""
    if not isinstance(value, Poly):
        raise BadValue(value)


def check_some_poly(value):
    """A Poly that is not 0."""
    check_poly(value)
    if not value.parts:
        raise BadValue(value)


def _digits_of(parts):
    """The digits of all parts."""
    return ", ".join([digit_text(part) for part in parts])


def _parts_beside(other):
    """The parts of the other operand: a Poly or an integer."""
    if isinstance(other, Poly):
        return other.parts
    if not is_integer(other):
        raise BadValue(other)
    return trimmed((other,))
