"""The order of values, as they are compared and as they are sorted."""

from allinputs.checks import check_string
from allinputs.errors import BadValue
from allinputs.ratios import Ratio
from allinputs.values import Fault, check_value, compare_numbers, known_kind
from allinputs.wholes import sign_of_whole

# Kinds come in this order when values are sorted; the first three when they are compared.
_RANKS = {"number": 0, "text": 1, "truth": 2, "fault": 3, "blank": 4}


def order(one, other):
    """-1, 0 or 1, if a value that is no fault comes ahead of another one, is equal or comes behind."""
    _check_no_fault(one)
    _check_no_fault(other)
    return known_order(one, other)


def known_order(one, other):
    """What order tells of what is known to be two values that are no faults."""
    return _order_of(_counted_as(one, other), _counted_as(other, one))


def sort_order(one, other):
    """-1, 0 or 1, if a value is sorted ahead of another one, like it or behind it."""
    check_value(one)
    check_value(other)
    return _order_of(one, other)


def small_letters(text):
    """A string with small letters in the place of A to Z."""
    check_string(text)
    if text.isascii():
        return text.lower()
    return "".join([sign.lower() if sign.isascii() else sign for sign in text])


def _check_no_fault(value):
    """A value that is no fault."""
    check_value(value)
    if isinstance(value, Fault):
        raise BadValue(value)


def _counted_as(value, peer):
    """A value as it is; of a blank what it counts as beside another value."""
    if value is not None or peer is None:
        return value
    if isinstance(peer, str):
        return ""
    if isinstance(peer, bool):
        return False
    return Ratio(0)


def _order_of(one, other):
    """The order of two values: by their kinds, then within their kind."""
    kind, peer = known_kind(one), known_kind(other)
    if kind != peer:
        return sign_of_whole(_RANKS[kind] - _RANKS[peer])
    if kind == "number":
        return compare_numbers(one, other)
    if kind == "truth":
        return int(one) - int(other)
    if kind == "text":
        return _order_of_texts(small_letters(one), small_letters(other))
    return 0


def _order_of_texts(one, other):
    """The order of two strings, character by character by code."""
    if one == other:
        return 0
    return -1 if one < other else 1
