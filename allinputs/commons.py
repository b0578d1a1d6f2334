"""Common factors and resultants of polys, told by their parts."""

from math import gcd

from allinputs.parts import content_of, left_over, primitive, quotient_of, slope_of, trimmed
from allinputs.wholes import whole_power

# 2 to the power of each of these, less 1, is a prime number.
_PRIME_SIZES = (61, 127, 521, 1279, 2281, 4423, 9689, 19937, 44497, 86243)


def common_factor(one, other):
    """The parts of the common factor of two polys, either of which may be 0."""
    first = primitive(one)
    second = primitive(other)
    if not first:
        return second
    if not second:
        return first
    if len(first) == 1 or len(second) == 1:
        return (1,)
    for size in _PRIME_SIZES:
        found = _common_by_prime(first, second, (1 << size) - 1)
        if found:
            return found
    return common_by_remainders(first, second)


def plain_parts(parts):
    """The parts of the plain form of a poly that is not 0."""
    first = primitive(parts)
    shared = common_factor(first, slope_of(first))
    if len(shared) <= 1:
        return first
    return primitive(quotient_of(first, shared))


def common_by_remainders(one, other):
    """The common factor of two polys that are not 0, by dividing over and over."""
    first, second = one, other
    while second:
        if len(first) < len(second):
            first, second = second, first
        first, second = second, primitive(left_over(first, second))
    return primitive(first)


def _common_by_prime(one, other, prime):
    """The common factor, guessed from that of the parts by a prime; () if the guess is wrong.

    The last part of the common factor divides scale. If the prime does not, the common factor by the
    prime has no lesser degree than the true one; so if the guess divides both, it is the true one.
    """
    scale = gcd(one[-1], other[-1])
    if scale % prime == 0:
        return ()
    found = _common_below(one, other, prime)
    if len(found) == 1:
        return (1,)
    factor = scale * _inverse_below(found[-1], prime)
    guess = primitive([_near_nought(part * factor, prime) for part in found])
    if quotient_of(one, guess) is None or quotient_of(other, guess) is None:
        return ()
    return guess


def _common_below(one, other, prime):
    """A common factor of two polys all of whose parts are looked at by a prime alone."""
    first = trimmed([part % prime for part in one])
    second = trimmed([part % prime for part in other])
    while second:
        if len(first) < len(second):
            first, second = second, first
        first, second = second, _left_below(first, second, prime)
    return first


def _left_below(one, other, prime):
    """What is left of one by other, but for a factor, all parts by a prime."""
    left = list(one)
    last = other[-1]
    many = len(other) - 1
    for at in range(len(one) - len(other), -1, -1):
        head = left.pop()
        left = [part * last % prime for part in left[:at]] + [
            (left[at + step] * last - head * other[step]) % prime for step in range(many)
        ]
    return trimmed(left)


def _near_nought(whole, prime):
    """The integer nearest to 0 that differs from another one by a multiple of a prime."""
    rest = whole % prime
    if 2 * rest > prime:
        return rest - prime
    return rest


def _inverse_below(whole, prime):
    """The integer by which another one, which the prime does not divide, must be multiplied to leave 1."""
    first, second = prime, whole % prime
    before, behind = 0, 1
    while second > 0:
        many, rest = divmod(first, second)
        first, second = second, rest
        before, behind = behind, before - many * behind
    return before % prime


def resultant(one, other):
    """The resultant of two polys that are not 0.

    With n for the degree of the second one it is the last part of the first one to the power n times
    the product of the worths of the second one at all roots of the first one.
    """
    first, second = one, other
    sign = 1
    if len(first) < len(second):
        first, second = other, one
        sign = _sign_of_exchange(first, second)
    shares = content_of(first), content_of(second)
    scale = whole_power(shares[0], len(second) - 1) * whole_power(shares[1], len(first) - 1)
    first = [part // shares[0] for part in first]
    second = [part // shares[1] for part in second]
    last = height = 1
    while len(second) > 1:
        drop = len(first) - len(second)
        sign = sign * _sign_of_exchange(first, second)
        left = left_over(first, second)
        if not left:
            return 0
        divisor = last * whole_power(height, drop)
        first, second = second, [part // divisor for part in left]
        last = first[-1]
        height = _next_height(last, height, drop)
    return sign * scale * _next_height(second[0], height, len(first) - 1)


def _sign_of_exchange(one, other):
    """The factor by which the resultant changes when two polys are exchanged."""
    if len(one) % 2 == 0 and len(other) % 2 == 0:
        return -1
    return 1


def _next_height(last, height, drop):
    """last to the power of drop by height to the power of drop less 1, which is an integer."""
    if drop == 0:
        return height
    return whole_power(last, drop) // whole_power(height, drop - 1)
