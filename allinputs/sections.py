"""The sections of format texts.

A section is a triple (ahead, part, behind): the literals ahead of its part and behind it as they are shown,
and the part: None, "@", or a tuple (noughts, has_comma, least, most, thousands) that tells of a digit part how
many "0" its whole places have, whether a comma stands in these, how many of its decimal places are "0", how
many these are in all (-1 without a point), and how many commas are at its end.
"""

from allinputs.checks import is_plain
from allinputs.errors import NotAFormat

MOST_SECTIONS = 4

_LITERALS = " $()+-:/"


def read_sections(text):
    """The tuple of the sections of a format text."""
    sections = []
    at = 0
    while True:
        section, at = _read_section(text, at, len(sections) == MOST_SECTIONS - 1)
        sections.append(section)
        if at == len(text):
            return tuple(sections)
        if text[at] != ";" or len(sections) == MOST_SECTIONS:
            raise NotAFormat(at)
        at = at + 1


def _read_section(text, start, is_for_texts):
    """The section that begins at a place, and the place behind it."""
    ahead, at = _read_literals(text, start)
    part = None
    if is_for_texts and _sign_at(text, at) == "@":
        part, at = "@", at + 1
    elif not is_for_texts and _sign_at(text, at) in ("#", "0"):
        part, at = _read_digit_part(text, at)
    if part is None:
        return (ahead, None, ""), at
    behind, at = _read_literals(text, at)
    return (ahead, part, behind), at


def _sign_at(text, at):
    """The character at a place, "" at the end."""
    return text[at:at + 1]


def _read_literals(text, start):
    """What the literals from a place on show, and the place behind them."""
    told = []
    at = start
    while at < len(text):
        if text[at] == "\"":
            written, at = _read_written(text, at)
            told.append(written)
        elif text[at] in _LITERALS:
            told.append(text[at])
            at = at + 1
        else:
            break
    return "".join(told), at


def _read_written(text, start):
    """The text that is written between quotes from a place on, and the place behind it."""
    told = []
    at = start + 1
    while at < len(text) and is_plain(text[at]):
        if text[at] == "\"":
            if _sign_at(text, at + 1) != "\"":
                return "".join(told), at + 1
            at = at + 1
        told.append(text[at])
        at = at + 1
    raise NotAFormat(at)


def _read_digit_part(text, start):
    """The digit part that begins at a place, and the place behind it."""
    noughts, has_comma, at = _read_whole_places(text, start)
    least, most = 0, -1
    if _sign_at(text, at) == ".":
        at = at + 1
        if _sign_at(text, at) not in ("#", "0"):
            raise NotAFormat(at)
        point = at
        at = _behind_all(text, at, "0")
        least = at - point
        at = _behind_all(text, at, "#")
        most = at - point
    behind = _behind_all(text, at, ",")
    return (noughts, has_comma, least, most, behind - at), behind


def _read_whole_places(text, start):
    """How many "0" the whole places from a place on have, whether commas, and the place behind them."""
    noughts = 0
    has_comma = False
    at = start
    while True:
        places = ("0",) if noughts > 0 else ("#", "0")
        if at > start and _sign_at(text, at) == "," and _sign_at(text, at + 1) in places:
            has_comma = True
            at = at + 1
        if _sign_at(text, at) not in places:
            return noughts, has_comma, at
        if text[at] == "0":
            noughts = noughts + 1
        at = at + 1


def _behind_all(text, start, sign):
    """The first place from one on at which a character does not stand."""
    at = start
    while _sign_at(text, at) == sign:
        at = at + 1
    return at
