"""Whether cells are alike for all numbers in the free cells of two books."""

from allinputs.book import cell_at, place_of
from allinputs.checks import check_string
from allinputs.curves import Curve
from allinputs.errors import BadValue, NotAName, NotTold, TooHigh, Unknown
from allinputs.marks import Ruler
from allinputs.members import member
from allinputs.points import Point
from allinputs.polys import Poly
from allinputs.rowparts import Edge
from allinputs.spans import Span, order_of_ends
from allinputs.stretches import cut_span
from allinputs.told import check_told, value_in_parts
from allinputs.values import same


def parts_from(one, other, cell, peer):
    """Where a cell of a Told and a peer of it in another Told are not the same; None if nowhere."""
    _check_pair(one, other)
    check_string(cell)
    check_string(peer)
    first, second = cell_at(one.book, cell), cell_at(other.book, peer)
    return place_apart(one.parts_of(first), other.parts_of(second))


def alike_places(one, other):
    """The tuple of the places that hold something in both books and are told and alike there."""
    _check_pair(one, other)
    found = []
    for cell in sorted(list({held: True for held in list(one.book.held.contents) + [one.free]})):
        place = place_of(one.book, cell)
        peer = cell_held(other.book, place, other.free)
        if peer is not None and are_alike(one, other, cell, peer):
            found.append(place)
    return tuple(found)


def cell_held(book, place, free):
    """The cell at a place, if it holds something or is the free one; None otherwise."""
    try:
        cell = cell_at(book, place)
    except (NotAName, Unknown):
        return None
    return cell if cell in book.held.contents or cell == free else None


def are_alike(one, other, cell, peer):
    """Whether two cells are told and have equal told rows."""
    try:
        return one.parts_of(cell) == other.parts_of(peer)
    except (NotTold, TooHigh):
        return False


def place_apart(row, peers):
    """A Ratio at which two told rows of one range are not the same, or else the least such Point; None if nowhere."""
    if row == peers:
        return None
    spans, points = _common_parts(row, peers)
    for span in spans:
        found = _ratio_apart(row, peers, span)
        if found is not None:
            return found
    apart = [point for point in points if not same(_value_at(row, point), _value_at(peers, point))]
    for point in apart:
        if not isinstance(point, Point):
            return point
    return apart[0] if apart else None


def _check_pair(one, other):
    """Two Tolds with equal ranges."""
    check_told(one)
    check_told(other)
    if one.low != other.low or one.high != other.high:
        raise BadValue(other)


def _common_parts(row, peers):
    """The list of the Spans in which two told rows of one range do not turn, and that of the points between them."""
    ruler = Ruler(None, None)
    for part in row + peers:
        if isinstance(part, Edge):
            ruler.mark_at(part.point)
    points = [mark.point for mark in ruler.marks]
    # A range without an end has a span beyond the last point.
    bounds = points
    if not isinstance(row[0], Edge):
        bounds = [None] + bounds
    if not isinstance(row[-1], Edge):
        bounds = bounds + [None]
    return [Span(bounds[at], bounds[at + 1]) for at in range(len(bounds) - 1)], points


def _piece_over(row, ratio):
    """The Curve, or the value, of the Piece of a told row in which a Ratio lies that is no edge."""
    for part in row:
        if not isinstance(part, Edge) and part.span.has(ratio):
            return part.value
    return None


def _ratio_apart(row, peers, span):
    """A Ratio in a Span in which two told rows do not turn at which they are not the same; None if there is none."""
    ratio = span.inner()
    one, other = _piece_over(row, ratio), _piece_over(peers, ratio)
    if not same(_worth_of(one, ratio), _worth_of(other, ratio)):
        return ratio
    if not isinstance(one, Curve) and not isinstance(other, Curve):
        return None
    poly = _top_of(one) * _bottom_of(other) - _top_of(other) * _bottom_of(one)
    # Curves that are equal somewhere are so at the roots of this poly alone, or everywhere.
    return cut_span(span, [poly])[0][0].inner() if poly.parts else None


def _worth_of(value, ratio):
    """The value that a Curve, or a value without x, is at a Ratio."""
    return value.worth_at(ratio) if isinstance(value, Curve) else value


def _top_of(value):
    """The top of a Curve or a Ratio, as a Poly."""
    return value.top if isinstance(value, Curve) else Poly([value.top])


def _bottom_of(value):
    """The bottom of a Curve or a Ratio, as a Poly."""
    return value.bottom if isinstance(value, Curve) else Poly([value.bottom])


def _value_at(row, point):
    """The value that a told row tells at a Ratio or a Point."""
    if not isinstance(point, Point):
        return value_in_parts(row, point)
    for part in row:
        if isinstance(part, Edge):
            if order_of_ends(part.point, point) == 0:
                return part.value
        elif part.span.high is None or order_of_ends(part.span.high, point) > 0:
            return member(point, part.value) if isinstance(part.value, Curve) else part.value
    return None
