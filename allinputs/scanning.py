"""What stands at a place of a formula text: numbers, written texts, faults and arrays.

Each function takes the text and the place where something begins, and returns it with the place behind it. Where
no formula text can go on as the text does, NotAFormula is raised with this place.
"""

from allinputs.checks import is_plain
from allinputs.errors import NotAFormula
from allinputs.ratios import Ratio
from allinputs.values import FAULT_KINDS, MOST_CHARACTERS, Fault
from allinputs.wholes import whole_power
from allinputs.words import goes_on, is_digit, starts_word

_TRUTHS = ("TRUE", "FALSE")


def char_at(text, at):
    """The character at a place, "" at the end."""
    return text[at:at + 1]


def behind_spaces(text, start):
    """The first place from one on at which no space stands."""
    at = start
    while char_at(text, at) == " ":
        at = at + 1
    return at


def behind_digits(text, start):
    """The first place from one on at which no digit stands."""
    at = start
    while is_digit(char_at(text, at)):
        at = at + 1
    return at


def behind_sign(text, at, sign):
    """The place behind a character that has to stand at a place."""
    if char_at(text, at) != sign:
        raise NotAFormula(at)
    return at + 1


def behind_word(text, start):
    """The first place from one on at which nothing stands by which a word goes on."""
    at = start
    while goes_on(char_at(text, at)):
        at = at + 1
    return at


def read_decimal(text, start):
    """The Ratio that is written as digits, or as digits, a point and digits."""
    at = behind_digits(text, start)
    if at == start:
        raise NotAFormula(at)
    if char_at(text, at) != ".":
        return Ratio(int(text[start:at])), at
    end = behind_digits(text, at + 1)
    if end == at + 1:
        raise NotAFormula(end)
    return Ratio(int(text[start:at] + text[at + 1:end]), whole_power(10, end - at - 1)), end


def read_quoted(text, start):
    """The text that is written between quotes."""
    told = []
    at = start + 1
    while at < len(text) and is_plain(text[at]):
        if text[at] == "\"":
            if char_at(text, at + 1) != "\"" or len(told) == MOST_CHARACTERS:
                return "".join(told), at + 1
            at = at + 1
        elif len(told) == MOST_CHARACTERS:
            break
        told.append(text[at])
        at = at + 1
    raise NotAFormula(at)


def read_kind(text, start):
    """The kind of a fault, which begins with "#"."""
    return _read_one_of(FAULT_KINDS, text, start + 1)


def read_array(text, start):
    """The rows of an array, which begins with a curly bracket."""
    rows = []
    row = []
    at = start
    while True:
        entry, at = _read_entry(text, behind_spaces(text, at + 1))
        row.append(entry)
        at = behind_spaces(text, at)
        sign = char_at(text, at)
        many = len(rows[0]) if rows else 0
        if sign == "," and (not rows or len(row) < many):
            continue
        if sign not in (";", "}") or (rows and len(row) < many):
            raise NotAFormula(at)
        rows.append(tuple(row))
        row = []
        if sign == "}":
            return tuple(rows), at + 1


def _read_entry(text, start):
    """The value of an entry of an array."""
    sign = char_at(text, start)
    if sign == "-":
        number, at = read_decimal(text, behind_spaces(text, start + 1))
        return -number, at
    if sign == "\"":
        return read_quoted(text, start)
    if sign == "#":
        kind, at = read_kind(text, start)
        return Fault(kind), at
    if starts_word(sign):
        word, at = _read_one_of(_TRUTHS, text, start)
        return word == "TRUE", at
    return read_decimal(text, start)


def _read_one_of(words, text, start):
    """One of some words, in any capitals, the longest that stands here."""
    at = start
    while at < len(text):
        begun = text[start:at + 1].upper()
        if not text[at].isascii() or not any([word.startswith(begun) for word in words]):
            break
        at = at + 1
    told = text[start:at].upper()
    if told not in words:
        raise NotAFormula(at)
    return told, at
