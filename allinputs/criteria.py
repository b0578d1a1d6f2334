"""Criteria: which values meet them, and which texts fit a pattern."""

from allinputs.errors import BadValue
from allinputs.numerals import read_number, wrong_place
from allinputs.ordering import known_order, small_letters
from allinputs.ratios import Ratio
from allinputs.turning import truth_of
from allinputs.values import Fault, check_value, is_text, known_kind

# The longer one of two signs with which a text begins comes ahead.
_SIGNS = ("<>", "<=", ">=", "=", "<", ">")

_ORDERS = {"<": (-1,), "<=": (-1, 0), ">": (1,), ">=": (1, 0)}


def fits(text, pattern):
    """Whether a text fits a pattern as a whole."""
    _check_some_text(text)
    _check_some_text(pattern)
    return is_fit(text, pattern_of(pattern))


def meets(value, criterion):
    """Whether a value meets a criterion."""
    check_value(value)
    check_value(criterion)
    if isinstance(criterion, Fault):
        raise BadValue(criterion)
    return is_met(value, criterion_of(criterion))


def criterion_of(value):
    """A criterion as a triple: its sign, its rest, and the pattern that the rest is, None if it is no text."""
    sign, rest = "=", value
    if isinstance(value, str):
        sign, rest = _split(value)
        told = _told_by(rest)
        # Nothing behind the sign "=" is met by blanks alone; it is kept apart from a text without a sign.
        if rest == "" and sign != "" and sign in ("=", "<>"):
            told = None
        return ("=" if sign == "" else sign), told, pattern_of(rest) if isinstance(told, str) else None
    return sign, (Ratio(0) if rest is None else rest), None


def is_met(value, criterion):
    """Whether a value meets a criterion, told as criterion_of tells it."""
    sign, rest, pattern = criterion
    if sign == "=":
        return _is_equal(value, rest, pattern)
    if sign == "<>":
        return not isinstance(value, Fault) and not _is_equal(value, rest, pattern)
    return known_kind(value) == known_kind(rest) and known_order(value, rest) in _ORDERS[sign]


def _is_equal(value, rest, pattern):
    """Whether a value meets the criterion of the sign "=" and a rest; None is nothing behind the sign."""
    if value is None:
        return rest is None or (isinstance(rest, str) and rest == "")
    if rest is None or known_kind(value) != known_kind(rest):
        return False
    return is_fit(value, pattern) if isinstance(value, str) else known_order(value, rest) == 0


def _split(text):
    """The sign with which a text begins, "" for none, and the rest."""
    for sign in _SIGNS:
        if text.startswith(sign):
            return sign, text.removeprefix(sign)
    return "", text


def _told_by(text):
    """The number, or else the truth, that a rest stands for, or else the rest itself."""
    if wrong_place(text) is None:
        return read_number(text)
    truth = truth_of(text)
    return text if isinstance(truth, Fault) else truth


def pattern_of(text):
    """A pattern as a tuple of signs; those that stand for any character or characters are marked by "~" ahead."""
    signs = []
    at = 0
    while at < len(text):
        sign = text[at]
        if sign == "~" and text[at + 1:at + 2] in ("*", "?", "~"):
            at = at + 1
            signs.append(text[at])
        elif sign in ("*", "?"):
            signs.append("~" + sign)
        else:
            signs.append(small_letters(sign))
        at = at + 1
    return tuple(signs)


def is_fit(text, signs):
    """Whether a text fits a pattern, told as pattern_of tells it."""
    letters = small_letters(text)
    at = step = 0
    star, begun = -1, 0
    while at < len(letters):
        sign = signs[step] if step < len(signs) else ""
        if sign == "~*":
            # The star stands for nothing first; if the rest does not fit, for one character more.
            star, begun = step, at
            step = step + 1
        elif sign in ("~?", letters[at]):
            at, step = at + 1, step + 1
        elif star >= 0:
            begun = begun + 1
            at, step = begun, star + 1
        else:
            return False
    return all([sign == "~*" for sign in signs[step:]])


def _check_some_text(value):
    """A text."""
    if not is_text(value):
        raise BadValue(value)
