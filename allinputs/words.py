"""Words of formulas: which ones are truths, names, or look like references."""

from allinputs.addresses import is_column_text, is_letters, is_row_text
from allinputs.ordering import small_letters

_DIGITS = "0123456789"


def starts_word(sign):
    """Whether a word may begin with a character."""
    return sign == "_" or is_letters(sign)


def goes_on(sign):
    """Whether a character may stand in a word behind its beginning."""
    return sign.isascii() and (sign.isalnum() or sign in ("_", "."))


def is_digit(sign):
    """Whether a character is a digit."""
    return sign.isascii() and sign.isdigit()


def is_word(text):
    """Whether a string is a word."""
    if not text or not starts_word(text[0]):
        return False
    return all([goes_on(sign) for sign in text])


def truth_word(word):
    """The truth that a word is, None if it is none."""
    letters = small_letters(word)
    if letters in ("true", "false"):
        return letters == "true"
    return None


def is_cell_word(word):
    """Whether a word is a cell, without marks: a column and a row."""
    column = word.rstrip(_DIGITS)
    return is_column_text(column) and is_row_text(word[len(column):])


def looks_like_reference(word):
    """Whether a word looks like a reference, of either notation."""
    column = word.rstrip(_DIGITS)
    if is_column_text(column) and len(column) < len(word):
        return True
    rest = small_letters(word)
    if rest.startswith("r"):
        rest = rest[1:].lstrip(_DIGITS)
    if rest.startswith("c"):
        rest = rest[1:].lstrip(_DIGITS)
    return word != "" and rest == ""


def is_name(text):
    """Whether a string is a name, in any capitals."""
    return is_word(text) and truth_word(text) is None and not looks_like_reference(text)
