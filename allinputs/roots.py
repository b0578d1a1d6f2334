"""Real roots of plain polys, told by parts, and intervals with ends that have one bottom.

A place is a triple (low, high, bottom) of integers, the bottom above 0: the open interval from
low / bottom to high / bottom; or, if low and high are equal, this one number.
"""

from allinputs.parts import moved_by, primitive, shifted, sign_at, slope_of, top_at
from allinputs.wholes import sign_of_whole


def bound_of(parts):
    """An exponent of 2 beyond which, in size, a poly that is not 0 has no root."""
    most = 0
    last = abs(parts[-1]).bit_length() - 1
    for step, part in enumerate(parts[-2::-1]):
        if part != 0:
            # No root is greater than twice the greatest of these quotients' roots of the degree step + 1.
            many = -((last - abs(part).bit_length()) // (step + 1))
            most = max(most, many)
    return most + 1


def root_places(parts, place):
    """The places, ascending, of all roots of a plain poly in an open interval: each has just one."""
    low, high, bottom = place
    if len(parts) < 2:
        return []
    if len(parts) == 2:
        return _linear_places(parts, place)
    found = []
    for first, last, depth in _unit_places(_on_unit(parts, place)):
        start = low << depth
        found.append((start + (high - low) * first, start + (high - low) * last, bottom << depth))
    return found


def _linear_places(parts, place):
    """The place of the root of a poly of degree 1, if it lies in an interval."""
    low, high, bottom = place
    top = -parts[0] * sign_of_whole(parts[1])
    below = abs(parts[1])
    if low * below < top * bottom < high * below:
        return [(top, top, below)]
    return []


def _on_unit(parts, place):
    """The poly whose roots from 0 to 1 are those of another one in an interval, from end to end."""
    low, high, bottom = place
    scaled = []
    scale = 1
    for part in reversed(parts):
        scaled.append(part * scale)
        scale = scale * bottom
    told = []
    scale = 1
    for part in moved_by(scaled[::-1], low):
        told.append(part * scale)
        scale = scale * (high - low)
    return told


def _unit_places(parts):
    """The triples (first, last, depth) for all roots between 0 and 1: they lie between first and last
    by 2 to the power of depth, or are this number."""
    found = []
    todo = [(parts, 0, 0)]
    while todo:
        left, at, depth = todo.pop()
        if left is None:
            found.append((at, at, depth))
            continue
        many = _changes(shifted(left[::-1]))
        if many == 1:
            found.append((at, at + 1, depth))
        elif many > 1:
            lower = [part << (len(left) - 1 - step) for step, part in enumerate(left)]
            upper = shifted(lower)
            todo.append((upper, 2 * at + 1, depth + 1))
            if upper[0] == 0:
                todo.append((None, 2 * at + 1, depth + 1))
            todo.append((lower, 2 * at, depth + 1))
    return found


def _changes(parts):
    """How often the sign changes along the parts, noughts left out."""
    many = 0
    before = 0
    for part in parts:
        if part != 0:
            if (part > 0 and before < 0) or (part < 0 and before > 0):
                many = many + 1
            before = part
    return many


def freed(parts, place):
    """A place within another one, with the same only root, at whose ends the poly is not 0."""
    low, high, bottom = place
    before = sign_at(parts, low, bottom)
    behind = sign_at(parts, high, bottom)
    ahead = before
    if before == 0:
        ahead = sign_at(slope_of(parts), low, bottom)
    while low < high and (before == 0 or behind == 0):
        middle = low + high
        low, high, bottom = 2 * low, 2 * high, 2 * bottom
        sign = sign_at(parts, middle, bottom)
        if sign == 0:
            low, high = middle, middle
        elif sign == ahead:
            low, before = middle, sign
        else:
            high, behind = middle, sign
    return low, high, bottom


def narrowed(parts, place, bits):
    """A place with the same root that is at most 2 to the power of -bits wide, bits from 0 on.

    The interval is cut into 2 to the power of step pieces, and the root looked for in the one in which
    a straight line from end to end would have it. If it is there, step is doubled, otherwise halved.
    """
    low, high, bottom = place
    if (high - low) << bits <= bottom:
        return place
    before = top_at(parts, low, bottom)
    behind = top_at(parts, high, bottom)
    step = 1
    while (high - low) << bits > bottom:
        width = high - low
        low, high, bottom = low << step, high << step, bottom << step
        before = before << (step * (len(parts) - 1))
        behind = behind << (step * (len(parts) - 1))
        at = min((before << step) // (before - behind), (1 << step) - 1)
        left, right = low + at * width, low + (at + 1) * width
        first = before if left == low else top_at(parts, left, bottom)
        second = behind if right == high else top_at(parts, right, bottom)
        if first == 0 or second == 0:
            middle = left if first == 0 else right
            return middle, middle, bottom
        if (first > 0) != (before > 0):
            high, behind, step = left, first, (step + 1) // 2
        elif (second > 0) == (before > 0):
            low, before, step = right, second, (step + 1) // 2
        else:
            low, high, before, behind, step = left, right, first, second, 2 * step
    return low, high, bottom


def settled(parts, place):
    """The parts and a place for the only root of a plain poly in an interval.

    If the root is a ratio, the poly told is of degree 1, and the place is this ratio.
    """
    least = narrowed(parts, freed(parts, place), parts[-1].bit_length())
    low, high, bottom = least
    if low == high:
        return _exactly(low, bottom)
    # The interval is so narrow that just one ratio with the last part as its bottom may lie in it.
    top = high * parts[-1] // bottom
    if top * bottom > low * parts[-1] and sign_at(parts, top, parts[-1]) == 0:
        return _exactly(top, parts[-1])
    return parts, least


def _exactly(top, bottom):
    """The parts and the place of a ratio."""
    parts = primitive((-top, bottom))
    return parts, (-parts[0], -parts[0], parts[1])


def reach_of(parts, place):
    """The least and the greatest worth, or beyond, of a poly in a place.

    Both are told times the bottom of the place to the power of the degree.
    """
    low, high, bottom = place
    least = most = 0
    scale = 1
    for part in reversed(parts):
        ends = [least * low, least * high, most * low, most * high]
        least = min(ends) + part * scale
        most = max(ends) + part * scale
        scale = scale * bottom
    return least, most
