"""References in formula texts: the notation by letters and digits.

A reference is read as a pair of its node and the place behind it. Where no formula text can go on as the text
does, NotAFormula is raised with this place; so these functions are called only where nothing but a reference can
stand, or where it is known how far it goes on.
"""

from allinputs.addresses import ROWS, Address, column_of, is_column_text, is_letters, is_row_text
from allinputs.areas import Area
from allinputs.errors import NotAFormula
from allinputs.scanning import behind_digits, behind_sign, char_at
from allinputs.words import is_cell_word, is_digit


def read_reference(text, start, sheet):
    """The reference that begins at a place, on a sheet that was told ahead, or on none."""
    at = start + 1 if char_at(text, start) == "$" else start
    if is_digit(char_at(text, at)):
        first, at = _read_row(text, start, sheet)
        last, at = _read_row(text, behind_sign(text, at, ":"), sheet)
        return ("area", Area(first, last, whole="rows")), at
    first, at = _read_column(text, start, sheet)
    if char_at(text, at) == ":":
        last, at = _read_column(text, at + 1, sheet)
        return ("area", Area(first, last, whole="columns")), at
    first, at = _with_row(text, at, first)
    if char_at(text, at) == "#":
        return ("spill", first), at + 1
    if char_at(text, at) != ":":
        return ("cell", first), at
    last, at = _read_column(text, at + 1, sheet)
    last, at = _with_row(text, at, last)
    return ("area", Area(first, last)), at


def begins_reference(text, start, end):
    """Whether the word between two places, and what stands behind it, can be nothing but a reference."""
    word, sign = text[start:end], char_at(text, end)
    if sign == "$":
        return is_column_text(word)
    if sign == "#":
        return is_cell_word(word)
    return sign == ":" and (is_cell_word(word) or is_column_text(word))


def begins_rows(text, start):
    """Whether digits that begin at a place are the first row of an area of whole rows."""
    at = behind_digits(text, start)
    return char_at(text, at) == ":" and is_row_text(text[start:at])


def word_node(word):
    """The reference node that a word by itself is, None if it is none."""
    if not is_cell_word(word):
        return None
    letters = word.rstrip("0123456789")
    return ("cell", Address(int(word[len(letters):]), column_of(letters)))


def _read_column(text, start, sheet):
    """An Address in the column that is written at a place, in the first row."""
    begin = start + 1 if char_at(text, start) == "$" else start
    at = begin
    while at < begin + 3 and is_letters(char_at(text, at)):
        at = at + 1
    if at == begin:
        raise NotAFormula(at)
    return Address(1, column_of(text[begin:at]), fixed_column=begin > start, sheet=sheet), at


def _with_row(text, start, cell):
    """An Address in the column of another one and in the row that is written at a place."""
    row, at = _read_row(text, start, cell.sheet)
    return Address(
        row.row, cell.column, fixed_row=row.fixed_row, fixed_column=cell.fixed_column, sheet=cell.sheet,
    ), at


def _read_row(text, start, sheet):
    """An Address in the row that is written at a place, in the first column."""
    begin = start + 1 if char_at(text, start) == "$" else start
    row, at = read_place_number(text, begin, ROWS)
    return Address(row, 1, fixed_row=begin > start, sheet=sheet), at


def read_place_number(text, start, most):
    """An integer from 1 to a greatest one that is written without a zero ahead, as far as it goes on."""
    if not is_digit(char_at(text, start)) or text[start] == "0":
        raise NotAFormula(start)
    end = start + 1
    while is_digit(char_at(text, end)) and int(text[start:end + 1]) <= most:
        end = end + 1
    return int(text[start:end]), end
