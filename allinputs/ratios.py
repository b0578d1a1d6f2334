"""Ratios: fractions of two integers, in lowest terms."""

from math import gcd

from allinputs.checks import check_integer, is_integer
from allinputs.errors import BadValue, NoDivisor
from allinputs.wholes import digit_text, sign_of_whole, whole_power


class Ratio:
    """A fraction of two integers: top and bottom have no common factor, the bottom is above 0."""

    def __init__(self, top, bottom=1):
        check_integer(top)
        check_integer(bottom)
        if bottom == 0:
            raise NoDivisor()
        shared = gcd(top, bottom)
        if bottom < 0:
            shared = -shared
        self.top = top // shared
        self.bottom = bottom // shared

    def __eq__(self, other):
        return isinstance(other, Ratio) and self.top == other.top and self.bottom == other.bottom

    def __add__(self, other):
        if goes_with_ratios(other):
            return NotImplemented
        right = as_ratio(other)
        return Ratio(self.top * right.bottom + right.top * self.bottom, self.bottom * right.bottom)

    def __radd__(self, other):
        return as_ratio(other) + self

    def __sub__(self, other):
        if goes_with_ratios(other):
            return NotImplemented
        right = as_ratio(other)
        return Ratio(self.top * right.bottom - right.top * self.bottom, self.bottom * right.bottom)

    def __rsub__(self, other):
        return as_ratio(other) - self

    def __mul__(self, other):
        if goes_with_ratios(other):
            return NotImplemented
        right = as_ratio(other)
        return Ratio(self.top * right.top, self.bottom * right.bottom)

    def __rmul__(self, other):
        return as_ratio(other) * self

    def __neg__(self):
        return lowest_ratio(-self.top, self.bottom)

    def inverse(self):
        """1 by this ratio."""
        if self.top == 0:
            raise NoDivisor()
        if self.top < 0:
            return lowest_ratio(-self.bottom, -self.top)
        return lowest_ratio(self.bottom, self.top)

    def power(self, exponent):
        """This ratio to the power of an integer."""
        check_integer(exponent)
        if exponent < 0:
            return self.inverse().power(-exponent)
        return lowest_ratio(whole_power(self.top, exponent), whole_power(self.bottom, exponent))

    def sign(self):
        """-1, 0 or 1."""
        return sign_of_whole(self.top)

    def floor(self):
        """The greatest integer that is not above this ratio."""
        return self.top // self.bottom

    def compare(self, other):
        """-1, 0 or 1, if this ratio is less than, equal to or greater than another one."""
        right = as_ratio(other)
        return sign_of_whole(self.top * right.bottom - right.top * self.bottom)

    def __str__(self):
        if self.bottom == 1:
            return f"{digit_text(self.top)}"
        return f"{digit_text(self.top)}/{digit_text(self.bottom)}"

    def __repr__(self):
        return f"Ratio({digit_text(self.top)}, {digit_text(self.bottom)})"


def lowest_ratio(top, bottom):
    """The Ratio of two integers that are in lowest terms already: no common factor is looked for."""
    ratio = Ratio(0)
    ratio.top = top
    ratio.bottom = bottom
    return ratio


def goes_with_ratios(other):
    """Whether something is a number of another kind, whose operators take a Ratio on their left."""
    return hasattr(other, "beside_ratios")


def is_ratio(value):
    """Whether something is a Ratio, or an integer that may stand for one."""
    return isinstance(value, Ratio) or is_integer(value)


def as_ratio(value):
    """A Ratio as it is, an integer as a Ratio."""
    if isinstance(value, Ratio):
        return value
    if not is_integer(value):
        raise BadValue(value)
    return lowest_ratio(value, 1)
