"""Functions: texts."""

from allinputs.errors import NotAFormat
from allinputs.formats import Format, shown
from allinputs.grids import grid_of
from allinputs.places import first_fault_within, given, ready, text_told, turned_places, whole_within
from allinputs.ratios import Ratio
from allinputs.values import MOST_CHARACTERS, Fault


def _of_text(things, action):
    """What a function tells for one text."""
    told = ready("t", things)
    return told if isinstance(told, Fault) else action(told[0])


def _length(things):
    """LEN."""
    return _of_text(things, length_of)


def length_of(text):
    """How many characters a text has, as a number."""
    return Ratio(len(text))


def _upper(things):
    """UPPER."""
    return _of_text(things, in_capitals)


def in_capitals(text):
    """A text with capitals in the place of small letters."""
    return text.upper()


def _lower(things):
    """LOWER."""
    return _of_text(things, in_small_letters)


def in_small_letters(text):
    """A text with small letters in the place of capitals."""
    return text.lower()


def _trim(things):
    """TRIM."""
    return _of_text(things, trimmed_text)


def trimmed_text(text):
    """A text without spaces at its ends, and with one space in the place of several."""
    return " ".join([word for word in text.split(" ") if word])


def _left(things):
    """LEFT."""
    told = ready("tk", things)
    if isinstance(told, Fault):
        return told
    many = whole_within(given(told, 1, Ratio(1)), 0, len(told[0]))
    return Fault("VALUE") if many < 0 else told[0][:many]


def _right(things):
    """RIGHT."""
    told = ready("tk", things)
    if isinstance(told, Fault):
        return told
    many = whole_within(given(told, 1, Ratio(1)), 0, len(told[0]))
    return Fault("VALUE") if many < 0 else told[0][len(told[0]) - many:]


def _middle(things):
    """MID."""
    told = ready("tik", things)
    if isinstance(told, Fault):
        return told
    begin, end = _between(told)
    return Fault("VALUE") if begin is None else told[0][begin:end]


def _replace(things):
    """REPLACE."""
    told = ready("tiku", things)
    if isinstance(told, Fault):
        return told
    begin, end = _between(told)
    return Fault("VALUE") if begin is None else text_told(told[0][:begin] + told[3] + told[0][end:])


def _between(told):
    """The place of the i-th character of a text, from 0 on, and that behind k of them; None if i or k is too low."""
    text = told[0]
    first = whole_within(told[1], 1, len(text) + 1)
    many = whole_within(told[2], 0, len(text))
    if first < 1 or many < 0:
        return None, None
    return first - 1, first - 1 + many


def _find(things):
    """FIND."""
    told = ready("sti", things)
    if isinstance(told, Fault):
        return told
    begin = whole_within(given(told, 2, Ratio(1)), 1, len(told[1]) + 2)
    at = told[1].find(told[0], begin - 1) if begin > 0 else -1
    return Fault("VALUE") if at < 0 else Ratio(at + 1)


def _substitute(things):
    """SUBSTITUTE."""
    told = ready("tsuk", things)
    if isinstance(told, Fault):
        return told
    text, old, fresh = told[0], told[1], told[2]
    pieces = text.split(old) if old else [text]
    if len(told) < 4:
        return text_told(fresh.join(pieces))
    at = whole_within(told[3], 1, len(pieces))
    if at < 1:
        return Fault("VALUE")
    if at >= len(pieces):
        return text
    return text_told(old.join(pieces[:at]) + fresh + old.join(pieces[at:]))


def _repeat(things):
    """REPT."""
    told = ready("tk", things)
    if isinstance(told, Fault):
        return told
    text = told[0]
    many = whole_within(told[1], 0, MOST_CHARACTERS // len(text) + 1 if text else 0)
    return Fault("VALUE") if many < 0 else text_told(text * many)


def _exact(things):
    """EXACT."""
    told = ready("st", things)
    return told if isinstance(told, Fault) else told[0] == told[1]


def _text_join(things):
    """TEXTJOIN."""
    fault = first_fault_within(things)
    if fault is not None:
        return fault
    values = [value for thing in things[2:] for value in grid_of(thing).cells()]
    told = turned_places("sp" + "t" * len(values), things[:2] + values)
    if isinstance(told, Fault):
        return told
    joined = [text for text in told[2:] if text != "" or not told[1]]
    return text_told(told[0].join(joined))


def _value(things):
    """VALUE."""
    told = ready("x", things)
    return told if isinstance(told, Fault) else told[0]


def _text(things):
    """TEXT."""
    told = ready("vt", things)
    if isinstance(told, Fault):
        return told
    form = _format_of(told[1])
    return Fault("VALUE") if form is None else shown(told[0], form)


def _format_of(text):
    """The Format with a text, None if there is none."""
    try:
        return Format(text)
    except NotAFormat:
        return None


WORDING = {
    "LEN": _length, "LEFT": _left, "RIGHT": _right, "MID": _middle, "REPLACE": _replace, "FIND": _find,
    "SUBSTITUTE": _substitute, "UPPER": _upper, "LOWER": _lower, "TRIM": _trim, "REPT": _repeat, "EXACT": _exact,
    "TEXTJOIN": _text_join, "VALUE": _value, "TEXT": _text,
}
