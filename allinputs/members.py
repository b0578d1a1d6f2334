"""Members: worths of curves at points."""

from allinputs.checks import check_integer, check_range
from allinputs.curves import check_curve, level_ratio
from allinputs.decimals import MOST_PLACES, cut_text
from allinputs.errors import BadValue, NoDivisor
from allinputs.points import Point
from allinputs.ratios import as_ratio
from allinputs.wholes import whole_power
from allinputs.worths import floor_of_worth, ratio_of_worth


class Member:
    """A worth that is no ratio, of a curve at a point. Members are made by member and by each other alone."""

    def __init__(self, point, curve):
        self.point = point
        self.curve = curve
        # A Ratio on the left of an operator leaves the work to this member.
        self.beside_ratios = True

    def __eq__(self, other):
        return isinstance(other, Member) and self.point == other.point and self.compare(other) == 0

    def __add__(self, other):
        return _number_at(self.point, self.curve + _beside(self, other))

    def __radd__(self, other):
        return self + as_ratio(other)

    def __sub__(self, other):
        return _number_at(self.point, self.curve - _beside(self, other))

    def __rsub__(self, other):
        return -self + as_ratio(other)

    def __mul__(self, other):
        return _number_at(self.point, self.curve * _beside(self, other))

    def __rmul__(self, other):
        return self * as_ratio(other)

    def __neg__(self):
        return Member(self.point, -self.curve)

    def inverse(self):
        """1 by this member."""
        return Member(self.point, self.curve.inverse())

    def power(self, exponent):
        """This member to the power of an integer."""
        check_integer(exponent)
        return _number_at(self.point, self.curve.power(exponent))

    def sign(self):
        """-1 or 1."""
        return self.point.sign_of(self.curve.top) * self.point.sign_of(self.curve.bottom)

    def floor(self):
        """The greatest integer that is not above this member."""
        return floor_of_worth(self.point, self.curve, 1)

    def compare(self, other):
        """-1, 0 or 1, if this member is less than, equal to or greater than another one or a ratio."""
        top, bottom = self.curve.top, self.curve.bottom
        if isinstance(other, Member):
            peer = _beside(self, other)
            difference = top * peer.bottom - peer.top * bottom
            return self.point.sign_of(difference) * self.point.sign_of(bottom * peer.bottom)
        right = as_ratio(other)
        return self.point.sign_of(top * right.bottom - bottom * right.top) * self.point.sign_of(bottom)

    def ratio(self):
        """None: a member is no ratio."""
        return None

    def digits(self, places):
        """The decimals of this member, cut off behind so many places."""
        check_range(places, 0, MOST_PLACES)
        least = floor_of_worth(self.point, self.curve, whole_power(10, places))
        # A worth that is no ratio lies between two multiples, so the one nearer to 0 is known.
        return cut_text(-least - 1 if least < 0 else least, places, least < 0)


def member(point, curve):
    """The number of a Curve at a Point: a Ratio if it is one, otherwise a Member."""
    if not isinstance(point, Point):
        raise BadValue(point)
    check_curve(curve)
    ratio = point.ratio()
    if ratio is not None:
        return curve.worth_at(ratio)
    if point.is_root_of(curve.bottom):
        raise NoDivisor()
    return _number_at(point, curve)


def _number_at(point, curve):
    """The number of a curve whose bottom is not 0 at a point that is no ratio."""
    if curve.is_level():
        return level_ratio(curve)
    ratio = ratio_of_worth(point, curve)
    if ratio is None:
        return Member(point, curve)
    return ratio


def _beside(own, other):
    """The curve or the Ratio of the other operand: a Member at an equal point, a Ratio or an integer."""
    if not isinstance(other, Member):
        return as_ratio(other)
    if own.point != other.point:
        raise BadValue(other)
    return other.curve
