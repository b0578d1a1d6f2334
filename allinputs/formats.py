"""Formats: how values are shown."""

from allinputs.checks import check_string
from allinputs.errors import BadValue
from allinputs.ratios import Ratio
from allinputs.sections import MOST_SECTIONS, read_sections
from allinputs.values import MOST_CHARACTERS, Fault, check_value
from allinputs.wholes import digit_text, whole_power


class Format:
    """A format text; its sections are kept as read_sections tells them."""

    def __init__(self, text):
        check_string(text)
        if len(text) > MOST_CHARACTERS:
            raise BadValue(text)
        self.sections = read_sections(text)
        self.text = text

    def __eq__(self, other):
        return isinstance(other, Format) and self.text == other.text


def check_format(value):
    """A Format."""
    if not isinstance(value, Format):
        raise BadValue(value)


def shown(value, form):
    """The text by which a Format shows a value, or a Fault."""
    check_value(value)
    check_format(form)
    if isinstance(value, Fault):
        return value
    if value is None:
        return ""
    if isinstance(value, bool):
        return "TRUE" if value else "FALSE"
    text = _text_shown(value, form) if isinstance(value, str) else _number_shown(value, form)
    return Fault("VALUE") if len(text) > MOST_CHARACTERS else text


def section_for(form, sign):
    """The section of a Format for numbers with a sign."""
    if sign < 0 and len(form.sections) > 1:
        return form.sections[1]
    if sign == 0 and len(form.sections) > 2:
        return form.sections[2]
    return form.sections[0]


def units_of(part):
    """The Ratio that a number is multiplied by for a digit part, to be rounded to an integer then."""
    _, _, _, most, thousands = part
    return Ratio(whole_power(10, max(0, most)), whole_power(1000, thousands))


def digits_shown(part, size):
    """What a digit part shows of a size of so many units."""
    noughts, has_comma, least, most, _ = part
    scale = whole_power(10, max(0, most))
    whole, rest = divmod(size, scale)
    told = digit_text(whole).zfill(noughts) if whole > 0 else "0" * noughts
    if has_comma:
        told = _with_commas(told)
    if most < 0:
        return told
    decimals = digit_text(rest).zfill(most)
    needed = len(decimals.rstrip("0"))
    return f"{told}.{decimals[:max(needed, least)]}"


def _with_commas(digits):
    """Digits with a comma ahead of each three of them, counted from the right, that have one ahead."""
    ahead = len(digits) - (len(digits) - 1) // 3 * 3 if digits else 0
    groups = [digits[at:at + 3] for at in range(ahead, len(digits), 3)]
    return ",".join([digits[:ahead]] + groups)


def _text_shown(text, form):
    """What is shown of a text."""
    if len(form.sections) < MOST_SECTIONS:
        return text
    ahead, part, behind = form.sections[-1]
    return ahead + (text if part == "@" else "") + behind


def _number_shown(number, form):
    """What is shown of a number; its sign is asked only if something hangs on it."""
    sign = 1
    if len(form.sections) > 1 or form.sections[0][1] is not None:
        sign = number.sign()
    ahead, part, behind = section_for(form, sign)
    if part is None:
        return ahead
    size = (number * (units_of(part) * sign) + Ratio(1, 2)).floor()
    minus = "-" if len(form.sections) == 1 and sign < 0 and size > 0 else ""
    return minus + ahead + digits_shown(part, size) + behind
