"""Polys as tuples or lists of their parts, integers, without a 0 at the end."""

from itertools import accumulate
from math import gcd

from allinputs.wholes import sign_of_whole


def trimmed(parts):
    """The parts as a tuple, without the noughts at the end."""
    many = len(parts)
    while many > 0 and parts[many - 1] == 0:
        many = many - 1
    return tuple(parts[:many])


def sum_of(one, other):
    """The parts of the sum of two polys."""
    longer, shorter = one, other
    if len(one) < len(other):
        longer, shorter = other, one
    added = list(longer)
    for at, part in enumerate(shorter):
        added[at] = added[at] + part
    return trimmed(added)


def times(parts, factor):
    """The parts of a poly times an integer."""
    return trimmed([part * factor for part in parts])


def product_of(one, other):
    """The parts of the product of two polys."""
    if not one or not other:
        return ()
    product = [0 for _ in range(len(one) + len(other) - 1)]
    for first, part in enumerate(one):
        if part != 0:
            for second, factor in enumerate(other):
                product[first + second] = product[first + second] + part * factor
    return tuple(product)


def slope_of(parts):
    """The parts of the derivative."""
    return tuple([at * part for at, part in enumerate(parts)][1:])


def content_of(parts):
    """The greatest common factor of all parts, 0 if there are none."""
    shared = 0
    for part in parts:
        shared = gcd(shared, part)
        if shared == 1:
            return 1
    return shared


def primitive(parts):
    """The poly by a number: its parts have no common factor but 1, the last one is above 0."""
    if not parts:
        return ()
    shared = content_of(parts)
    if parts[-1] < 0:
        shared = -shared
    if shared == 1:
        return tuple(parts)
    return tuple([part // shared for part in parts])


def quotient_of(parts, divisor):
    """The parts of the poly that divisor must be multiplied by, None if there is none with integers."""
    many = len(parts) - len(divisor) + 1
    if many <= 0:
        return None if parts else ()
    left = list(parts)
    quotient = [0 for _ in range(many)]
    for at in range(many - 1, -1, -1):
        head, rest = divmod(left[at + len(divisor) - 1], divisor[-1])
        if rest != 0:
            return None
        quotient[at] = head
        if head != 0:
            for step, part in enumerate(divisor):
                left[at + step] = left[at + step] - head * part
    if trimmed(left):
        return None
    return tuple(quotient)


def left_over(one, other):
    """What is left of one by other, times a power of the last part of other that makes it integers.

    The power is one more than the degree of other is below that of one, so the factor is known.
    """
    left = list(one)
    last = other[-1]
    for at in range(len(one) - len(other), -1, -1):
        head = left.pop()
        left = [part * last for part in left]
        for step in range(len(other) - 1):
            left[at + step] = left[at + step] - head * other[step]
    return trimmed(left)


def top_at(parts, top, bottom):
    """The worth of a poly at top / bottom, times bottom to the power of its degree."""
    worth = 0
    scale = 1
    for part in reversed(parts):
        worth = worth * top + part * scale
        scale = scale * bottom
    return worth


def sign_at(parts, top, bottom):
    """The sign of a poly at top / bottom, the bottom being above 0."""
    return sign_of_whole(top_at(parts, top, bottom))


def shifted(parts):
    """The parts of the poly at x + 1, as a list as long as the parts."""
    row = list(parts[::-1])
    moved = []
    while row:
        row = list(accumulate(row))
        moved.append(row.pop())
    return moved


def moved_by(parts, step):
    """The parts of the poly at x + step, an integer, as a list as long as the parts."""
    row = list(parts[::-1])
    moved = []
    while row:
        left = []
        worth = 0
        for part in row:
            worth = worth * step + part
            left.append(worth)
        moved.append(left.pop())
        row = list(left)
    return moved
