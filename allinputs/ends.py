"""The least and the greatest number that a cell is."""

from allinputs.checks import check_string
from allinputs.curves import Curve
from allinputs.marks import as_place
from allinputs.members import member
from allinputs.numbersorder import order_numbers
from allinputs.points import Point
from allinputs.ratios import Ratio
from allinputs.rowparts import Edge
from allinputs.spans import roots_in
from allinputs.stretches import cut_span, joined
from allinputs.told import check_told
from allinputs.values import is_number


class Candidates:
    """The numbers that a cell is, or comes near to, where it may be least or greatest.

    reached has pairs of a number and the Span, Ratio or Point where the cell is it; near those of a number and the
    Ratio or Point beside which it comes near to it, None for far out; beyond pairs of a sign and such a place, where it
    goes beyond all numbers.
    """

    def __init__(self, parts):
        self.reached = []
        self.near = []
        self.beyond = []
        for part in parts:
            if isinstance(part, Edge):
                if is_number(part.value):
                    self.reached.append((part.value, part.point))
            elif isinstance(part.value, Curve):
                self._take_curve(part.value, part.span)
            elif is_number(part.value):
                self.reached.append((part.value, part.span))

    def _take_curve(self, curve, span):
        """Looks at a curve, which is not level, on a Span."""
        signs = [curve.worth_at(part.inner()).sign() for part in cut_span(span, [curve.top])[0]]
        self._take_end(curve, span.low, signs[0])
        slope = curve.top.slope() * curve.bottom - curve.top * curve.bottom.slope()
        for root in roots_in(slope, span):
            place = as_place(root)
            self.reached.append((worth_at_place(curve, place), place))
        self._take_end(curve, span.high, signs[-1])

    def _take_end(self, curve, end, sign):
        """Looks at an end of a span; the sign is that of the curve beside it."""
        if end is None:
            limit = _far_out(curve)
        else:
            limit = worth_at_place(curve, end) if _has_worth(curve, end) else None
        if limit is None:
            self.beyond.append((sign, end))
        else:
            self.near.append((limit, end))


def least(told, cell):
    """The least number that a cell is, as a triple of it, where it is it, and whether it is."""
    return _outermost(told, cell, -1)


def greatest(told, cell):
    """The greatest number that a cell is, as such a triple."""
    return _outermost(told, cell, 1)


def _outermost(told, cell, side):
    """The least number that a cell is, or the greatest one if side is 1."""
    check_told(told)
    check_string(cell)
    found = Candidates(told.pieces(cell))
    beyond = [place for sign, place in found.beyond if sign == side]
    if beyond:
        return None, _first_place(beyond), False
    numbers = [number for number, _ in found.reached + found.near]
    if not numbers:
        return None
    best = numbers[0]
    for number in numbers[1:]:
        if order_numbers(number, best) == side:
            best = number
    places = [place for number, place in found.reached if order_numbers(number, best) == 0]
    if places:
        where = joined(places)[0]
        return _number_told_at(found.reached, where, best), where, True
    where = _first_place([place for number, place in found.near if order_numbers(number, best) == 0])
    return _number_told_at(found.near, where, best), where, False


def _first_place(places):
    """The first of some places that is not far out; None if all are."""
    for place in places:
        if place is not None:
            return place
    return None


def _number_told_at(pairs, where, otherwise):
    """The number of the first pair with a Point; another one for any other place."""
    if isinstance(where, Point):
        for number, place in pairs:
            if isinstance(place, Point) and place == where and order_numbers(number, otherwise) == 0:
                return number
    return otherwise


def worth_at_place(curve, place):
    """The number that a curve is at a Ratio or a Point."""
    return member(place, curve) if isinstance(place, Point) else curve.worth_at(place)


def _has_worth(curve, place):
    """Whether the bottom of a curve is not 0 at a Ratio or a Point."""
    if isinstance(place, Point):
        return not place.is_root_of(curve.bottom)
    return curve.bottom.worth_at(place).top != 0


def _far_out(curve):
    """The Ratio to which a curve comes near far out; None if it goes beyond all numbers."""
    top, bottom = curve.top, curve.bottom
    if top.degree() > bottom.degree():
        return None
    return Ratio(0) if top.degree() < bottom.degree() else Ratio(top.parts[-1], bottom.parts[-1])
