"""Values turned into numbers, texts and truths."""

from allinputs.errors import NotTold
from allinputs.numerals import number_text, read_number, wrong_place
from allinputs.ordering import small_letters
from allinputs.ratios import Ratio
from allinputs.values import MOST_CHARACTERS, Fault, check_value


def to_number(value):
    """The number that a value is turned into, or a Fault."""
    check_value(value)
    if value is None or isinstance(value, bool):
        return Ratio(1) if value else Ratio(0)
    if not isinstance(value, str):
        return value
    if wrong_place(value) is not None:
        return Fault("VALUE")
    return read_number(value)


def to_text(value):
    """The text that a value is turned into, or a Fault."""
    check_value(value)
    if isinstance(value, (str, Fault)):
        return value
    if value is None:
        return ""
    if isinstance(value, bool):
        return "TRUE" if value else "FALSE"
    if not isinstance(value, Ratio):
        raise NotTold()
    text = number_text(value)
    if len(text) > MOST_CHARACTERS:
        return Fault("VALUE")
    return text


def to_truth(value):
    """The truth that a value is turned into, or a Fault."""
    check_value(value)
    if isinstance(value, (bool, Fault)):
        return value
    if value is None:
        return False
    if not isinstance(value, str):
        return value.sign() != 0
    return truth_of(value)


def truth_of(text):
    """True or False, if a text is "TRUE" or "FALSE" but for capitals; otherwise a Fault."""
    letters = small_letters(text)
    if letters in ("true", "false"):
        return letters == "true"
    return Fault("VALUE")
