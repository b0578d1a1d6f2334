"""Integers: their powers, their digits, and which ones have too many of these."""

MOST_DIGITS = 3000

# The digits of integers of at most so many bits are written at once: Python refuses above 4,300 digits.
_BITS_AT_ONCE = 14000


def whole_power(base, exponent):
    """An integer to the power of another one, which is 0 or greater."""
    result = 1
    factor = base
    left = exponent
    while left > 0:
        if left & 1:
            result = result * factor
        left = left >> 1
        if left > 0:
            factor = factor * factor
    return result


def is_long(whole):
    """Whether an integer has more than 3,000 digits."""
    bits = whole.bit_length()
    # 10 to the power 3,000 itself has 9,966 bits; a power is worked out only for integers as long as it.
    return bits > 9966 or (bits == 9966 and abs(whole) >= whole_power(10, MOST_DIGITS))


def digit_text(whole):
    """The digits of an integer of any size, with "-" ahead of one below 0."""
    if whole.bit_length() <= _BITS_AT_ONCE:
        return str(whole)
    if whole < 0:
        return "-" + digit_text(-whole)
    behind = whole.bit_length() * 3 // 20
    top, rest = divmod(whole, whole_power(10, behind))
    return digit_text(top) + digit_text(rest).zfill(behind)


def sign_of_whole(whole):
    """-1, 0 or 1."""
    if whole > 0:
        return 1
    if whole < 0:
        return -1
    return 0
