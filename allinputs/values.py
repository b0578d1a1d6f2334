"""Values: numbers, texts, truths, blanks and faults."""

from allinputs.checks import is_plain
from allinputs.errors import BadValue
from allinputs.members import Member
from allinputs.ratios import Ratio
from allinputs.strands import Strand

FAULT_KINDS = ("DIV", "VALUE", "REF", "NAME", "NUM", "NA", "SPILL", "RING")

MOST_CHARACTERS = 1000


class Fault:
    """A fault of one of the eight kinds."""

    def __init__(self, kind):
        if not isinstance(kind, str) or kind not in FAULT_KINDS:
            raise BadValue(kind)
        self.kind = kind

    def __eq__(self, other):
        return isinstance(other, Fault) and self.kind == other.kind

    def __str__(self):
        return f"#{self.kind}"

    def __repr__(self):
        return f"Fault({self.kind!r})"


def is_number(thing):
    """Whether something is a number as a value: an integer is none."""
    return isinstance(thing, (Ratio, Strand, Member))


def is_text(thing):
    """Whether something is a text as a value."""
    return isinstance(thing, str) and len(thing) <= MOST_CHARACTERS and is_plain(thing)


def is_value(thing):
    """Whether something is a value."""
    if thing is None or isinstance(thing, (bool, Fault)):
        return True
    return is_number(thing) or is_text(thing)


def check_value(value):
    """A value."""
    if not is_value(value):
        raise BadValue(value)


def kind_of(value):
    """The kind of a value: "number", "text", "truth", "blank" or "fault"."""
    check_value(value)
    return known_kind(value)


def known_kind(value):
    """The kind of what is known to be a value."""
    if isinstance(value, Ratio):
        return "number"
    if value is None:
        return "blank"
    if isinstance(value, bool):
        return "truth"
    if isinstance(value, str):
        return "text"
    if isinstance(value, Fault):
        return "fault"
    return "number"


def same(one, other):
    """Whether two values are the same; capitals count, and a blank is the same as a blank alone."""
    kind = kind_of(one)
    if kind != kind_of(other):
        return False
    if kind == "number":
        return compare_numbers(one, other) == 0
    return one == other


def compare_numbers(one, other):
    """-1, 0 or 1, by the sign of the difference of two numbers that are values."""
    if isinstance(one, Ratio) and isinstance(other, Ratio):
        return one.compare(other)
    if isinstance(one, Member):
        return one.compare(other)
    if isinstance(other, Member) and isinstance(one, Ratio):
        return -other.compare(one)
    return (one - other).sign()
