"""Numbers in texts: how they are written and read."""

from allinputs.checks import check_string, is_plain
from allinputs.decimals import cut_text
from allinputs.errors import BadValue, NotANumber, TooHigh
from allinputs.ratios import Ratio, as_ratio
from allinputs.values import MOST_CHARACTERS
from allinputs.wholes import MOST_DIGITS, digit_text, is_long

MOST_DECIMALS = 60

# What may stand behind each beginning of a number: "1" is for all digits but 0, "+" for both signs, "e" for both
# marks of a power. "whole" is digits without a point, "places" digits with one, "noughts" a bottom of noughts alone.
_STEPS = {
    ("start", " "): "start", ("start", "+"): "sign", ("start", "0"): "whole", ("start", "1"): "whole",
    ("start", "."): "point",
    ("sign", "0"): "whole", ("sign", "1"): "whole", ("sign", "."): "point",
    ("whole", "0"): "whole", ("whole", "1"): "whole", ("whole", "."): "places", ("whole", "e"): "mark",
    ("whole", "/"): "slash", ("whole", " "): "end",
    ("point", "0"): "places", ("point", "1"): "places",
    ("places", "0"): "places", ("places", "1"): "places", ("places", "e"): "mark", ("places", " "): "end",
    ("mark", "+"): "power sign", ("mark", "0"): "power", ("mark", "1"): "power",
    ("power sign", "0"): "power", ("power sign", "1"): "power",
    ("power", "0"): "powers", ("power", "1"): "powers", ("power", " "): "end",
    ("powers", " "): "end",
    ("slash", "0"): "noughts", ("slash", "1"): "bottom",
    ("noughts", "0"): "noughts", ("noughts", "1"): "bottom",
    ("bottom", "0"): "bottom", ("bottom", "1"): "bottom", ("bottom", " "): "end",
    ("end", " "): "end",
}

_COMPLETE = ("whole", "places", "power", "powers", "bottom", "end")


def number_text(ratio):
    """The text of a Ratio: digits, a point and decimals, or a quotient."""
    number = as_ratio(ratio)
    if is_long(number.top) or is_long(number.bottom):
        raise TooHigh(MOST_DIGITS)
    if number.bottom == 1:
        return digit_text(number.top)
    scale = 1
    for places in range(1, MOST_DECIMALS + 1):
        scale = scale * 10
        if scale % number.bottom == 0:
            return cut_text(abs(number.top) * (scale // number.bottom), places, number.top < 0)
    return str(number)


def read_number(text):
    """The Ratio that can be read from a text."""
    check_string(text)
    if len(text) > MOST_CHARACTERS or not is_plain(text):
        raise BadValue(text)
    at = wrong_place(text)
    if at is not None:
        raise NotANumber(at)
    written = text.strip(" ")
    number = _size_of(written.lstrip("+-"))
    return -number if written.startswith("-") else number


def wrong_place(text):
    """The wrong place of a text from which no number can be read, None if one can."""
    state = "start"
    for at, sign in enumerate(text):
        state = _STEPS.get((state, _sort_of(sign)))
        if state is None:
            return at
    if state in _COMPLETE:
        return None
    return len(text)


def _sort_of(sign):
    """The sign that stands for one of a text in the steps."""
    if sign in "123456789":
        return "1"
    if sign in "eE":
        return "e"
    if sign in "+-":
        return "+"
    return sign


def _size_of(text):
    """The Ratio that is written in one of the three forms."""
    if "/" in text:
        top, _, bottom = text.partition("/")
        return Ratio(int(top), int(bottom))
    digits, _, power = text.replace("E", "e").partition("e")
    ahead, _, behind = digits.partition(".")
    return Ratio(int(ahead + behind)) * Ratio(10).power((int(power) if power else 0) - len(behind))
