"""Spans: open intervals whose ends are ratios, points or none."""

from allinputs.errors import BadValue
from allinputs.points import Point, count_roots, isolate
from allinputs.polys import check_some_poly
from allinputs.ratios import Ratio, as_ratio, is_ratio


class Span:
    """An open interval. An end is a Ratio, a Point that is no ratio, or None for no end."""

    def __init__(self, low, high):
        self.low = _end_of(low)
        self.high = _end_of(high)
        if self.low is not None and self.high is not None and order_of_ends(self.low, self.high) >= 0:
            raise BadValue(high)

    def __eq__(self, other):
        return isinstance(other, Span) and self.low == other.low and self.high == other.high

    def has(self, ratio):
        """Whether a ratio lies in this span."""
        place = as_ratio(ratio)
        if self.low is not None and self.low.compare(place) >= 0:
            return False
        return self.high is None or self.high.compare(place) > 0

    def inner(self):
        """A Ratio in this span, which depends on nothing but the two ends."""
        if self.low is None and self.high is None:
            return Ratio(0)
        if self.low is None:
            return Ratio(_ceiling(self.high) - 1)
        if self.high is None:
            return Ratio(_floor_times(self.low, 1) + 1)
        least, most = -1, 0
        while self._first_of(most) is None:
            least, most = most, 2 * most + 1
        # The least power of 2 is looked for that has a multiple of its inverse in the span.
        while most - least > 1:
            middle = (least + most) // 2
            if self._first_of(middle) is None:
                least = middle
            else:
                most = middle
        return self._first_of(most)

    def _first_of(self, bits):
        """The least Ratio in this span that is a multiple of 2 to the power of -bits; None without one."""
        scale = 1 << bits
        first = Ratio(_floor_times(self.low, scale) + 1, scale)
        if self.high.compare(first) > 0:
            return first
        return None


def check_span(value):
    """A Span."""
    if not isinstance(value, Span):
        raise BadValue(value)


def roots_in(poly, span):
    """The tuple of the Points of a Poly that is not 0 in a span, ascending."""
    check_some_poly(poly)
    check_span(span)
    return _roots_of(poly, span)


def has_root(poly, span):
    """Whether a Poly that is not 0 has a root in a span."""
    if poly.degree() < 1 or count_roots(poly, _beyond(span.low, 0), _beyond(span.high, 1)) == 0:
        return False
    if isinstance(span.low, Point) or isinstance(span.high, Point):
        return len(_roots_of(poly, span)) > 0
    return True


def _roots_of(poly, span):
    """The tuple of the Points of a Poly that is not 0 in a span."""
    found = []
    for root in isolate(poly, _beyond(span.low, 0), _beyond(span.high, 1)):
        if span.low is None or root.compare(span.low) > 0:
            if span.high is None or root.compare(span.high) < 0:
                found.append(root)
    return tuple(found)


def _beyond(end, at):
    """An end of a span; of a Point the Ratio that its place begins (at is 0) or ends with (at is 1)."""
    if isinstance(end, Point):
        return Ratio(end.place[at], end.place[2])
    return end


def _end_of(end):
    """An end as it is kept: a Ratio, a Point that is no ratio, or None."""
    if isinstance(end, Point):
        ratio = end.ratio()
        return end if ratio is None else ratio
    if end is not None and not is_ratio(end):
        raise BadValue(end)
    return None if end is None else as_ratio(end)


def order_of_ends(one, other):
    """-1, 0 or 1, if an end is less than, equal to or greater than another one; neither is None."""
    if isinstance(other, Point):
        return -other.compare(one)
    return one.compare(other)


def _floor_times(end, scale):
    """The greatest integer that is not above a Ratio or a Point times an integer above 0."""
    if isinstance(end, Point):
        return end.floor_times(scale)
    return end.top * scale // end.bottom


def _ceiling(end):
    """The least integer that is not below a Ratio or a Point."""
    floor = _floor_times(end, 1)
    if end.compare(floor) == 0:
        return floor
    return floor + 1
