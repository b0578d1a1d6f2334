"""The order of ratios and members, also of members at unlike points."""

from allinputs.errors import BadValue
from allinputs.members import Member
from allinputs.ratios import as_ratio, is_ratio
from allinputs.worths import worth_place, worth_point


def order_numbers(one, other):
    """-1, 0 or 1, if a number is less than, equal to or greater than another one."""
    _check_number(one)
    _check_number(other)
    if isinstance(one, Member) and isinstance(other, Member):
        if one.point == other.point:
            return one.compare(other)
        return _order_apart(one, other)
    if isinstance(other, Member):
        return -other.compare(one)
    if isinstance(one, Member):
        return one.compare(other)
    return as_ratio(one).compare(other)


def _check_number(value):
    """A Member, a Ratio or an integer."""
    if not isinstance(value, Member) and not is_ratio(value):
        raise BadValue(value)


def _order_apart(one, other):
    """The order of two members at unlike points."""
    # Most members are so far from each other that this is seen at once.
    first, last = worth_place(one.point, one.curve, 64)
    least, most = worth_place(other.point, other.curve, 64)
    if last < least:
        return -1
    if most < first:
        return 1
    return worth_point(one.point, one.curve).compare(worth_point(other.point, other.curve))
