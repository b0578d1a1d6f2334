"""Which ratios a format shows alike."""

from allinputs.checks import check_string
from allinputs.formats import check_format, digits_shown, section_for, units_of
from allinputs.ratios import Ratio
from allinputs.values import MOST_CHARACTERS


def bands(form, text):
    """The list of the bands (low, high, low_in, high_in) of the ratios that a Format shows as a text."""
    check_format(form)
    check_string(text)
    if len(text) > MOST_CHARACTERS:
        return []
    told = []
    for band in _bands_below(form, text) + _bands_at_nought(form, text) + _bands_above(form, text):
        if told and _touch(told[-1], band):
            before = told.pop()
            told.append((before[0], band[1], before[2], band[3]))
        else:
            told.append(band)
    return told


def _touch(one, other):
    """Whether a band and the next one together are one band."""
    return one[1] == other[0] and (one[3] or other[2])


def _bands_above(form, text):
    """The bands of ratios above 0."""
    ahead, part, behind = section_for(form, 1)
    if part is None:
        return [(Ratio(0), None, False, False)] if text == ahead else []
    return _bands_of_size(part, _size_shown(part, text, ahead, behind))


def _bands_at_nought(form, text):
    """The band of 0 alone."""
    ahead, part, behind = section_for(form, 0)
    told = ahead if part is None else ahead + digits_shown(part, 0) + behind
    return [(Ratio(0), Ratio(0), True, True)] if text == told else []


def _bands_below(form, text):
    """The bands of ratios below 0."""
    ahead, part, behind = section_for(form, -1)
    if part is None:
        return [(None, Ratio(0), False, False)] if text == ahead else []
    size = _size_shown(part, text, ahead, behind)
    if len(form.sections) == 1 and size != 0:
        # A size that is not 0 has "-" ahead of all.
        size = _size_shown(part, text, "-" + ahead, behind)
        if size == 0:
            size = None
    told = _bands_of_size(part, size)
    return [(-high, -low, high_in, low_in) for low, high, low_in, high_in in told]


def _size_shown(part, text, ahead, behind):
    """The only size, in units, that a digit part shows between two texts as told; None without one."""
    if len(text) < len(ahead) + len(behind) or not text.startswith(ahead) or not text.endswith(behind):
        return None
    digits = text[len(ahead):len(text) - len(behind)]
    whole, _, decimals = digits.replace(",", "").partition(".")
    written = whole + decimals + "0" * (part[3] - len(decimals))
    if not written.isascii() or not (written + "0").isdigit():
        return None
    size = int("0" + written)
    return size if digits_shown(part, size) == digits else None


def _bands_of_size(part, size):
    """The bands of ratios above 0 that have a size, in units, by a digit part; none for the size None."""
    if size is None:
        return []
    unit = units_of(part).inverse()
    high = Ratio(2 * size + 1, 2) * unit
    if size == 0:
        return [(Ratio(0), high, False, False)]
    return [(Ratio(2 * size - 1, 2) * unit, high, True, False)]
