"""Sets of numbers that consist of spans and points: lists, ascending, of Spans, and of Ratios and Points."""

from allinputs.marks import Ruler, as_place
from allinputs.spans import Span, roots_in


def joined(items):
    """The tuple of the greatest Spans, and the Ratios and Points that lie in none, of a list without common numbers."""
    told = []
    for item in items:
        if len(told) > 1 and isinstance(item, Span) and isinstance(told[-2], Span):
            if told[-2].high == told[-1] and told[-1] == item.low:
                told = told[:-2] + [Span(told[-2].low, item.high)]
                continue
        told.append(item)
    return tuple(told)


def cut_span(span, polys):
    """The list of the Spans into which the roots of some polys, none of them 0, cut a Span, and that of these roots."""
    ruler = Ruler(None, None)
    for poly in polys:
        for root in roots_in(poly, span):
            ruler.mark_at(as_place(root))
    points = [mark.point for mark in ruler.marks]
    bounds = [span.low] + points + [span.high]
    return [Span(bounds[at], bounds[at + 1]) for at in range(len(points) + 1)], points


def level_poly(curve, ratio):
    """A poly that is 0 where a curve, which is not level, is a Ratio."""
    return curve.top * ratio.bottom - curve.bottom * ratio.top


def places_of_poly(poly, span):
    """The list of the Ratios and Points in a Span at which a poly, which is not 0 all over, is 0."""
    return [as_place(root) for root in roots_in(poly, span)]
