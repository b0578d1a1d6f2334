"""Marks: the points at which a range ends or is cut, and the spans between them."""

from allinputs.curves import Curve
from allinputs.members import member
from allinputs.points import Point
from allinputs.polys import Poly
from allinputs.ratios import Ratio, as_ratio, is_ratio
from allinputs.spans import Span, order_of_ends, roots_in
from allinputs.strands import Strand

_X_PARTS = (0, 1)


class Mark:
    """A point of a range, a Ratio or a Point that is none; x is the number there."""

    def __init__(self, point, number):
        self.point = point
        self.x = point
        # A Ratio that is near enough to tell wide spans from narrow ones.
        self.near = point
        if isinstance(point, Point):
            self.x = member(point, x_curve())
            self.near = Ratio(point.place[0], point.place[2])
        # Marks are told apart by their numbers; ranks tell their order, and change as others come between.
        self.number = number
        self.rank = 0

    def put_at(self, rank):
        """Gives the mark its place among all marks."""
        self.rank = rank


class Ruler:
    """All marks of a range, ascending. Each point has one mark, so their order is told soon."""

    def __init__(self, low, high):
        self.marks = []
        self.spans = {}
        self.low = None if low is None else self.mark_at(as_ratio(low))
        self.high = None if high is None else self.mark_at(as_ratio(high))

    def mark_at(self, point):
        """The mark at a Ratio, or at a Point that is none; it is made if there is none yet."""
        low, high = 0, len(self.marks)
        while low < high:
            middle = (low + high) // 2
            side = order_of_ends(self.marks[middle].point, point)
            if side == 0:
                return self.marks[middle]
            if side < 0:
                low = middle + 1
            else:
                high = middle
        mark = Mark(point, len(self.marks))
        self.marks.insert(low, mark)
        for rank in range(low, len(self.marks)):
            self.marks[rank].put_at(rank)
        return mark

    def span_between(self, first, last):
        """The Span between two marks; None is no end."""
        key = (-1 if first is None else first.number, -1 if last is None else last.number)
        if key not in self.spans:
            self.spans[key] = Span(None if first is None else first.point, None if last is None else last.point)
        return self.spans[key]

    def x_between(self, first, last):
        """The number x on the span between two marks."""
        return Strand(x_curve(), self.span_between(first, last))

    def cuts_between(self, poly, first, last):
        """The list of the marks at the roots of a poly between two marks."""
        return [self.mark_at(as_place(root)) for root in roots_in(poly, self.span_between(first, last))]


def x_curve():
    """The curve x."""
    return Curve(Poly(_X_PARTS))


def as_place(point):
    """A Point as it is told: as a Ratio if it is one."""
    ratio = point.ratio()
    return point if ratio is None else ratio


def is_between(ratio, low, high):
    """Whether something is a Ratio of the range with these ends."""
    if not is_ratio(ratio):
        return False
    place = as_ratio(ratio)
    return (low is None or place.compare(low) >= 0) and (high is None or place.compare(high) <= 0)
