"""Where cells are a number, or have a sign, for all numbers in the free cell."""

from allinputs.checks import check_range, check_string
from allinputs.curves import Curve
from allinputs.errors import BadValue
from allinputs.ratios import Ratio, as_ratio, is_ratio
from allinputs.rowparts import Edge
from allinputs.stretches import cut_span, joined, level_poly, places_of_poly
from allinputs.told import check_told
from allinputs.values import is_number


def goal(told, cell, ratio):
    """Where a cell is a number that equals a Ratio."""
    check_told(told)
    check_string(cell)
    if not is_ratio(ratio):
        raise BadValue(ratio)
    number = as_ratio(ratio)
    found = []
    for part in told.pieces(cell):
        is_edge = isinstance(part, Edge)
        if not is_edge and isinstance(part.value, Curve):
            found.extend(places_of_poly(level_poly(part.value, number), part.span))
        elif isinstance(part.value, Ratio) and part.value == number:
            found.append(part.point if is_edge else part.span)
    return joined(found)


def where_sign(told, cell, sign):
    """Where a cell is a number with a sign: -1, 0 or 1."""
    check_told(told)
    check_string(cell)
    check_range(sign, -1, 1)
    found = []
    for part in told.pieces(cell):
        is_edge = isinstance(part, Edge)
        if not is_edge and isinstance(part.value, Curve):
            found.extend(_where_curve(part.value, part.span, sign))
        elif is_number(part.value) and part.value.sign() == sign:
            found.append(part.point if is_edge else part.span)
    return joined(found)


def _where_curve(curve, span, sign):
    """The list of the places in a Span at which a curve has a sign."""
    spans, points = cut_span(span, [curve.top])
    if sign == 0:
        return points
    return [part for part in spans if curve.worth_at(part.inner()).sign() == sign]
