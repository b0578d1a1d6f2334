"""Rows: what cells tell over a range, on spans and at marks by turns.

What is told there is called a thing: a value, or the Grid of the values that a formula spills.
"""

from allinputs.errors import NotTold, Turns
from allinputs.grids import Grid, made_grid
from allinputs.members import Member, member
from allinputs.points import Point
from allinputs.ratios import Ratio
from allinputs.rowparts import Edge, Piece
from allinputs.strands import Strand
from allinputs.values import same

MOST_PARTS = 300

# A range that is cut at more points than these is told no more.
MOST_CUTS = 1000


class Row:
    """The things of a cell over the range of a Ruler.

    marks are those within the range at which the thing turns, spans the things on the spans between them, points the
    things at them; ends the pair of the things at the ends of the range.
    """

    def __init__(self, marks, spans, points, ends):
        self.marks = marks
        self.spans = spans
        self.points = points
        self.ends = ends
        self.is_constant = not marks and not has_x(spans[0]) and goes_on(spans[0], ends[0], ends[1])
        # The things at marks within a span, by the numbers of the marks.
        self.known = {}

    def thing_on(self, ruler, first, last):
        """The thing on the span between two marks, or ends, of a range, between which it does not turn."""
        thing = self.thing_behind(first)
        return thing_on(thing, ruler, first, last) if has_x(thing) else thing

    def thing_at(self, ruler, mark):
        """The thing at a mark."""
        thing, is_there = self.thing_near(ruler, mark)
        if is_there or not has_x(thing):
            return thing
        if mark.number not in self.known:
            self.known[mark.number] = thing_at(thing, mark.point)
        return self.known[mark.number]

    def thing_behind(self, mark):
        """The thing on the span that lies behind a mark, or begins with it; None is the lower end of all numbers."""
        return self.spans[self._many_up_to(mark)]

    def thing_near(self, ruler, mark):
        """The thing at a mark, and True; or that on the span in which it lies, and False."""
        for side, end in enumerate((ruler.low, ruler.high)):
            if end is not None and end.number == mark.number:
                return self.ends[side], True
        many = self._many_up_to(mark)
        if many > 0 and self.marks[many - 1].number == mark.number:
            return self.points[many - 1], True
        return self.spans[many], False

    def has_grid(self):
        """Whether one of the things is a Grid."""
        return any([isinstance(thing, Grid) for thing in self.spans + self.points + list(self.ends)])

    def _many_up_to(self, mark):
        """How many of the marks come up to a mark, itself included; None is the lower end of all numbers."""
        low, high = 0, 0 if mark is None else len(self.marks)
        while low < high:
            middle = (low + high) // 2
            if self.marks[middle].rank <= mark.rank:
                low = middle + 1
            else:
                high = middle
        return low


def level_row(thing):
    """The Row of one thing without x."""
    return Row([], [thing], [], (thing, thing))


def are_alike_rows(one, other):
    """Whether two Rows of one range tell the same."""
    if [mark.number for mark in one.marks] != [mark.number for mark in other.marks]:
        return False
    points = list(zip(one.points + list(one.ends), other.points + list(other.ends)))
    if not all([_are_one_curve(thing, peer) for thing, peer in zip(one.spans, other.spans)]):
        return False
    return all([_are_one_curve(thing, peer) for thing, peer in points])


def x_row(ruler):
    """The Row of the number x."""
    ends = tuple([None if end is None else end.x for end in (ruler.low, ruler.high)])
    return Row([], [ruler.x_between(ruler.low, ruler.high)], [], ends)


def all_marks(rows):
    """The list, ascending, of the marks of some Rows, each once."""
    by_rank = {mark.rank: mark for row in rows for mark in row.marks}
    return [by_rank[rank] for rank in sorted(list(by_rank))]


def worked_row(ruler, marks, work):
    """The Row that a work tells, cut at some marks, and at others wherever it turns.

    A work tells things by told_on(first, last) on the span between two marks, or raises Turns, and by told_at(mark).
    """
    bounds = [ruler.low] + marks + [ruler.high]
    # The things on spans, each with the mark with which its span begins; those that are still to come, first ones last.
    told = []
    todo = [(bounds[at], bounds[at + 1]) for at in range(len(marks), -1, -1)]
    many = len(marks)
    while todo:
        first, last = todo.pop()
        try:
            told.append((first, work.told_on(first, last)))
        except Turns as error:
            cuts = ruler.cuts_between(error.poly, first, last)
            many = many + len(cuts)
            if not cuts or many > MOST_CUTS:
                raise NotTold() from error
            todo.extend(_widest_last([first] + cuts + [last]))
    spans = {-1 if first is None else first.rank: (first, thing) for first, thing in told}
    ordered = [spans[rank] for rank in sorted(list(spans))]
    found = [first for first, _ in ordered[1:]]
    points = [work.told_at(mark) for mark in found]
    ends = tuple([None if end is None else work.told_at(end) for end in (ruler.low, ruler.high)])
    return _joined_row(ruler, found, [thing for _, thing in ordered], points, ends)


def _widest_last(bounds):
    """The list of the pairs of neighbouring marks, those farthest from each other last.

    If what is asked turns without end, this is mostly seen soonest on the widest span.
    """
    pairs = [(bounds[at], bounds[at + 1]) for at in range(len(bounds) - 1)]
    widest = 0
    for at, pair in enumerate(pairs):
        if _is_wider(pair, pairs[widest]):
            widest = at
    return pairs[:widest] + pairs[widest + 1:] + [pairs[widest]]


def _is_wider(pair, other):
    """Whether two marks are farther from each other than two others, about; None is farthest."""
    if other[0] is None or other[1] is None:
        return False
    if pair[0] is None or pair[1] is None:
        return True
    return (pair[1].near - pair[0].near).compare(other[1].near - other[0].near) > 0


def _joined_row(ruler, marks, spans, points, ends):
    """The Row without the marks at which the thing does not turn."""
    kept = []
    left = [spans[0]]
    between = []
    for mark, thing, right in zip(marks, points, spans[1:]):
        if not _does_turn(left[-1], thing, right, mark.point):
            continue
        kept.append(mark)
        between.append(thing)
        left.append(right)
    told = [ends[0] if ruler.low is not None else left[0], ends[1] if ruler.high is not None else left[-1]]
    return Row(kept, left, between, tuple(told))


def _does_turn(left, thing, right, point):
    """Whether the things on both sides of a point and at it are not the same all through."""
    if has_x(left) or has_x(right):
        return not _are_one_curve(left, right) or not _is_thing_of(left, thing, point)
    return not goes_on(left, thing, right)


def goes_on(left, thing, right):
    """Whether three things without x on the spans are the same."""
    return _are_same(left, right) and _are_same(left, thing)


def _are_same(one, other):
    """Whether two things, of which one has no x, are the same."""
    if isinstance(one, Grid) and isinstance(other, Grid):
        if one.height != other.height or one.width != other.width:
            return False
        return all([_are_same(value, peer) for value, peer in zip(one.cells(), other.cells())])
    if isinstance(one, (Grid, Strand)) or isinstance(other, (Grid, Strand)):
        return False
    return same(one, other)


def _are_one_curve(left, right):
    """Whether two things on spans are the same, or curves all of which are the same."""
    if isinstance(left, Grid) and isinstance(right, Grid):
        if left.height != right.height or left.width != right.width:
            return False
        return all([_are_one_curve(value, peer) for value, peer in zip(left.cells(), right.cells())])
    if isinstance(left, Strand) and isinstance(right, Strand):
        return left.curve == right.curve
    return _are_same(left, right)


def _is_thing_of(left, thing, point):
    """Whether the thing at a point is what that on a span beside it would be there."""
    if isinstance(left, Grid):
        if not isinstance(thing, Grid) or left.height != thing.height or left.width != thing.width:
            return False
        return all([_is_thing_of(value, peer, point) for value, peer in zip(left.cells(), thing.cells())])
    return is_worth(left.curve, thing, point) if isinstance(left, Strand) else _are_same(left, thing)


def is_worth(curve, value, point):
    """Whether a value is the worth of a curve at a Ratio or a Point, if it has one there."""
    if isinstance(value, Member):
        if value.curve == curve:
            return True
        top, bottom = value.curve.top, value.curve.bottom
    elif isinstance(value, Ratio):
        top, bottom = value.top, value.bottom
    else:
        return False
    if not isinstance(point, Point):
        return curve.bottom.worth_at(point).top != 0 and curve.worth_at(point) == value
    return not point.is_root_of(curve.bottom) and point.is_root_of(curve.top * bottom - curve.bottom * top)


def has_x(thing):
    """Whether a thing on a span is a strand, or has one."""
    if isinstance(thing, Grid):
        return any([isinstance(value, Strand) for value in thing.cells()])
    return isinstance(thing, Strand)


def thing_on(thing, ruler, first, last):
    """A thing on a lesser span, that between two marks."""
    if isinstance(thing, Grid):
        rows = [tuple([thing_on(value, ruler, first, last) for value in row]) for row in thing.rows]
        return made_grid(tuple(rows), None)
    return Strand(thing.curve, ruler.span_between(first, last)) if isinstance(thing, Strand) else thing


def thing_at(thing, point):
    """What a thing on a span is at a Ratio or a Point in it."""
    if isinstance(thing, Grid):
        return made_grid(tuple([tuple([thing_at(value, point) for value in row]) for row in thing.rows]), None)
    if not isinstance(thing, Strand):
        return thing
    return member(point, thing.curve) if isinstance(point, Point) else thing.curve.worth_at(point)


def told_parts(ruler, row):
    """The told row of a Row of values: the tuple of its Pieces and Edges by turns."""
    ends = len([end for end in (ruler.low, ruler.high) if end is not None])
    if 2 * len(row.marks) + 1 + ends > MOST_PARTS:
        raise NotTold()
    parts = []
    bounds = [ruler.low] + row.marks + [ruler.high]
    values = [row.ends[0]] + row.points + [row.ends[1]]
    for at, thing in enumerate(row.spans):
        if bounds[at] is not None:
            parts.append(Edge(bounds[at].point, values[at]))
        span = ruler.span_between(bounds[at], bounds[at + 1])
        parts.append(Piece(span, thing.curve if isinstance(thing, Strand) else thing))
    if ruler.high is not None:
        parts.append(Edge(ruler.high.point, values[-1]))
    return tuple(parts)
