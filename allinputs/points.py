"""Points: real roots of polys, each told by a poly and an interval in which it has just this root."""

from allinputs.checks import check_range
from allinputs.commons import common_factor, plain_parts
from allinputs.decimals import MOST_PLACES, cut_text
from allinputs.errors import BadValue
from allinputs.parts import sign_at
from allinputs.polys import Poly, check_poly, check_some_poly, poly_of
from allinputs.ratios import Ratio, as_ratio, is_ratio
from allinputs.roots import bound_of, narrowed, reach_of, root_places, settled
from allinputs.wholes import sign_of_whole, whole_power


class Point:
    """A real root of a poly. Kept are the plain poly and a place of its root (see roots.py)."""

    def __init__(self, poly, low, high):
        check_some_poly(poly)
        first, last = as_ratio(low), as_ratio(high)
        if last.compare(first) <= 0:
            raise BadValue(high)
        parts = plain_parts(poly.parts)
        places = root_places(parts, _place_between(first, last))
        if len(places) != 1:
            raise BadValue(high)
        parts, place = settled(parts, places[0])
        self.poly = poly_of(parts)
        self.place = place
        self.side = sign_at(parts, place[0], place[2])

    def __eq__(self, other):
        return isinstance(other, Point) and self.compare(other) == 0

    def compare(self, other):
        """-1, 0 or 1, if this point is less than, equal to or greater than another one or a ratio."""
        if not isinstance(other, Point):
            right = as_ratio(other)
            return self.side_of(right.top, right.bottom)
        low, high, bottom = self.place
        if low == high:
            return -other.side_of(low, bottom)
        low, high, bottom = other.place
        if low == high:
            return self.side_of(low, bottom)
        return _order_of(self, other)

    def side_of(self, top, bottom):
        """-1, 0 or 1, if this point is less than, equal to or greater than top / bottom."""
        low, high, own = self.place
        if low == high:
            return sign_of_whole(low * bottom - top * own)
        if top * own <= low * bottom:
            return 1
        if top * own >= high * bottom:
            return -1
        if sign_at(self.poly.parts, top, bottom) == self.side:
            return 1
        return -1

    def narrow_place(self, bits):
        """A place of this point that is at most 2 to the power of -bits wide."""
        return narrowed(self.poly.parts, self.place, bits)

    def floor_times(self, scale):
        """The greatest integer that is not above this point times an integer above 0."""
        low, high, bottom = self.narrow_place(scale.bit_length())
        least, most = low * scale // bottom, high * scale // bottom
        # The place is less than 1 / scale wide, so at most one of the multiples of it lies within.
        if least < most and self.side_of(most, scale) >= 0:
            return most
        return least

    def sign_of(self, poly):
        """The sign of a poly at this point."""
        check_poly(poly)
        low, high, bottom = self.place
        if low == high:
            return sign_at(poly.parts, low, bottom)
        if self.is_root_of(poly):
            return 0
        bits = 8
        place = self.place
        while True:
            least, most = reach_of(poly.parts, place)
            if least > 0 or most < 0:
                return sign_of_whole(least)
            place = narrowed(self.poly.parts, place, bits)
            bits = 2 * bits

    def is_root_of(self, poly):
        """Whether a poly is 0 at this point."""
        low, high, bottom = self.place
        if low == high:
            return sign_at(poly.parts, low, bottom) == 0
        shared = common_factor(self.poly.parts, poly.parts)
        return len(shared) > 1 and sign_at(shared, low, bottom) != sign_at(shared, high, bottom)

    def ratio(self):
        """This point as a Ratio, None if it is none."""
        low, high, bottom = self.place
        if low < high:
            return None
        return Ratio(low, bottom)

    def between(self, width):
        """Two Ratios that differ by at most a width, one of which is this point or it lies between them."""
        room = as_ratio(width)
        if room.top <= 0:
            raise BadValue(width)
        bits = max(0, room.bottom.bit_length() - room.top.bit_length() + 1)
        low, high, bottom = self.narrow_place(bits)
        return Ratio(low, bottom), Ratio(high, bottom)

    def digits(self, places):
        """The decimals of this point, cut off behind so many places."""
        check_range(places, 0, MOST_PLACES)
        low, high, bottom = self.place
        scale = whole_power(10, places)
        if low == high:
            return cut_text(abs(low) * scale // bottom, places, low < 0)
        least = self.floor_times(scale)
        # A point that is no ratio lies between two multiples, so the one nearer to 0 is known.
        return cut_text(-least - 1 if least < 0 else least, places, least < 0)


def check_ends(low, high):
    """The ends of an interval: Ratios, or None for none."""
    if low is not None and not is_ratio(low):
        raise BadValue(low)
    if high is not None and not is_ratio(high):
        raise BadValue(high)
    if low is not None and high is not None and as_ratio(high).compare(low) <= 0:
        raise BadValue(high)


def count_roots(poly, low, high):
    """How many unlike real roots a Poly that is not 0 has in an open interval; None is no end."""
    return len(_places_in(poly, low, high)[1])


def isolate(poly, low, high):
    """The tuple of the Points of a Poly that is not 0 in an open interval, ascending; None is no end."""
    parts, places = _places_in(poly, low, high)
    return tuple([point_in(parts, place) for place in places])


def point_in(parts, place):
    """The Point for the only root of a plain poly in a place."""
    low, high, bottom = place
    if low == high:
        return Point(Poly((-low, bottom)), Ratio(low - bottom, bottom), Ratio(low + bottom, bottom))
    return Point(poly_of(parts), Ratio(low, bottom), Ratio(high, bottom))


def _places_in(poly, low, high):
    """The parts of the plain form of a Poly and the places of its roots in an open interval."""
    check_some_poly(poly)
    check_ends(low, high)
    parts = plain_parts(poly.parts)
    bound = whole_power(2, bound_of(parts))
    first = Ratio(-bound) if low is None else as_ratio(low)
    last = Ratio(bound) if high is None else as_ratio(high)
    if last.compare(first) <= 0:
        return parts, []
    return parts, root_places(parts, _place_between(first, last))


def _place_between(low, high):
    """The open interval between two Ratios as a place."""
    return low.top * high.bottom, high.top * low.bottom, low.bottom * high.bottom


def _order_of(one, other):
    """-1, 0 or 1, if a point is less than, equal to or greater than another one; both are no ratios."""
    parts, peers = one.poly.parts, other.poly.parts
    place, beside = one.place, other.place
    if parts == peers and place == beside:
        return 0
    if _share(place, beside) and _meet(parts, place, peers, beside):
        return 0
    bits = 8
    while True:
        low, high, bottom = place
        least, most, below = beside
        if high * below <= least * bottom:
            return -1
        if most * bottom <= low * below:
            return 1
        place = narrowed(parts, place, bits)
        beside = narrowed(peers, beside, bits)
        bits = 2 * bits


def _share(place, beside):
    """Whether two open intervals have numbers in common."""
    low, high, bottom = place
    least, most, below = beside
    return low * below < most * bottom and least * bottom < high * below


def _meet(parts, place, peers, beside):
    """Whether the roots of two plain polys in two places are one."""
    low, high, bottom = place
    least, most, below = beside
    shared = common_factor(parts, peers)
    first = (low, bottom) if low * below > least * bottom else (least, below)
    last = (high, bottom) if high * below < most * bottom else (most, below)
    if len(shared) < 2 or first[0] * last[1] >= last[0] * first[1]:
        return False
    return sign_at(shared, first[0], first[1]) != sign_at(shared, last[0], last[1])
