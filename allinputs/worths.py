"""Worths of curves at points: how great they are, which ones are ratios, and which are equal.

Here the point is no ratio, the curve is not level, and its bottom is not 0 at the point.
"""

from allinputs.commons import common_factor, resultant
from allinputs.parts import quotient_of, sum_of, times
from allinputs.points import Point, count_roots
from allinputs.polys import poly_of
from allinputs.ratios import Ratio
from allinputs.roots import reach_of
from allinputs.wholes import whole_power


def worth_place(point, curve, bits):
    """Two integers: the worth, times 2 to the power of bits, lies from the first to the second one.

    They differ by at most 4; bits is 0 or greater.
    """
    top, bottom = curve.top.parts, curve.bottom.parts
    many = bits + 8
    while True:
        place = point.narrow_place(many)
        least, most = reach_of(top, place)
        low, high = reach_of(bottom, place)
        if high < 0:
            least, most, low, high = -most, -least, -high, -low
        if low > 0:
            scale = whole_power(place[2], len(bottom) - 1) << bits
            below = whole_power(place[2], len(top) - 1)
            first = least * scale // (below * (low if least < 0 else high))
            last = -(-most * scale // (below * (high if most < 0 else low)))
            if last - first <= 4:
                return first, last
        many = 2 * many


def floor_of_worth(point, curve, scale):
    """The greatest integer that is not above the worth, which is no ratio, times an integer above 0."""
    bits = scale.bit_length() + 8
    while True:
        first, last = worth_place(point, curve, bits)
        least, most = first * scale >> bits, last * scale >> bits
        if least == most:
            return least
        bits = 2 * bits


def ratio_of_worth(point, curve):
    """The worth as a Ratio, None if it is none.

    The bottom of such a ratio divides the last part of the resultant of the poly of the point and of
    y times the bottom of the curve less its top, a poly in y that is 0 at the worth.
    """
    top, bottom = curve.top.parts, curve.bottom.parts
    parts = _parts_beside(point, bottom)
    most = whole_power(parts[-1], max(0, len(top) - len(bottom)))
    if len(bottom) > 1:
        most = most * resultant(parts, bottom)
    else:
        most = most * bottom[0]
    most = abs(most)
    bits = most.bit_length() + 3
    first, last = worth_place(point, curve, bits)
    # The worth is known so well that at most one ratio with this bottom may be it.
    whole = last * most >> bits
    if whole << bits < first * most:
        return None
    ratio = Ratio(whole, most)
    if point.is_root_of(curve.top * ratio.bottom - curve.bottom * ratio.top):
        return ratio
    return None


def worth_point(point, curve):
    """The worth, which is no ratio, as a Point."""
    poly = poly_of(_worth_parts(_parts_beside(point, curve.bottom.parts), curve))
    bits = 8
    while True:
        first, last = worth_place(point, curve, bits)
        low, high = Ratio(first, 1 << bits), Ratio(last, 1 << bits)
        if count_roots(poly, low, high) == 1:
            return Point(poly, low, high)
        bits = 2 * bits


def _parts_beside(point, bottom):
    """The parts of a poly with the point as a root that has no root of the bottom of a curve."""
    parts = point.poly.parts
    return quotient_of(parts, common_factor(parts, bottom))


def _worth_parts(parts, curve):
    """The parts of a poly in y: the resultant of a poly and of y times the bottom less the top of a curve.

    It is worked out for a y so great a power of 2 that its parts can be read from the result.
    """
    top, bottom = curve.top.parts, curve.bottom.parts
    most = max(len(top), len(bottom)) - 1
    size = sum([abs(part) for part in parts])
    other = sum([abs(part) for part in top]) + sum([abs(part) for part in bottom])
    bits = most * size.bit_length() + (len(parts) - 1) * other.bit_length() + 2
    left = resultant(parts, sum_of(times(bottom, 1 << bits), times(top, -1)))
    told = []
    for _ in range(len(parts)):
        part = left & ((1 << bits) - 1)
        if part >> (bits - 1):
            part = part - (1 << bits)
        told.append(part)
        left = (left - part) >> bits
    return told
