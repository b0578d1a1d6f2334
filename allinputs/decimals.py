"""Decimals of numbers as texts."""

from allinputs.wholes import digit_text

MOST_PLACES = 1000


def cut_text(size, places, is_below):
    """A number of so many units in the last place, as a text; "-" ahead if it is below 0."""
    sign = "-" if is_below else ""
    digits = digit_text(size).zfill(places + 1)
    if places == 0:
        return sign + digits
    return f"{sign}{digits[:-places]}.{digits[-places:]}"
