"""Where cells fail for numbers in the free cell."""

from allinputs.checks import check_string, check_truth
from allinputs.ratios import as_ratio
from allinputs.rowparts import Edge
from allinputs.spans import Span, order_of_ends
from allinputs.stretches import joined
from allinputs.told import check_told
from allinputs.values import Fault


def failing(told, cell):
    """Where a cell is a fault."""
    check_told(told)
    check_string(cell)
    found = []
    for part in told.pieces(cell):
        if isinstance(part.value, Fault):
            found.append(part.point if isinstance(part, Edge) else part.span)
    return joined(found)


def first_break(told, cell, ratio, up=True):
    """The number up to which a cell does not fail, from a ratio on, and whether it fails there; None if it never does.

    If up is False, downwards from the ratio.
    """
    check_told(told)
    check_string(cell)
    told.check_ratio(ratio)
    check_truth(up)
    start = as_ratio(ratio)
    items = failing(told, cell)
    if up:
        for item in items:
            found = _break_above(item, start)
            if found is not None:
                return found
        return None
    for item in items[::-1]:
        found = _break_below(item, start)
        if found is not None:
            return found
    return None


def _break_above(item, start):
    """The least number at or above a Ratio of a Span or a point, and whether it is one of its numbers; or None."""
    if not isinstance(item, Span):
        return (item, True) if order_of_ends(item, start) >= 0 else None
    if item.high is not None and order_of_ends(item.high, start) <= 0:
        return None
    if item.low is None or order_of_ends(item.low, start) < 0:
        return start, True
    return item.low, False


def _break_below(item, start):
    """The greatest number at or below a Ratio of a Span or a point, and whether it is one of its numbers; or None."""
    if not isinstance(item, Span):
        return (item, True) if order_of_ends(item, start) <= 0 else None
    if item.low is not None and order_of_ends(item.low, start) >= 0:
        return None
    if item.high is None or order_of_ends(item.high, start) > 0:
        return start, True
    return item.high, False
