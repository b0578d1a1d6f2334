"""References in formula texts: the relative notation, as it is seen from a base.

Rows and columns are read as a pair of a number, which may lie off the grid, and whether it is fixed. For all else
see notations.py.
"""

from allinputs.addresses import COLUMNS, ROWS, is_on_grid, marked_address
from allinputs.areas import Area
from allinputs.errors import NotAFormula
from allinputs.notations import read_place_number
from allinputs.scanning import behind_digits, behind_sign, char_at
from allinputs.words import is_digit

MOST_STEP_DIGITS = 6


def read_relative(text, start, sheet, base):
    """The reference that begins at a place, on a sheet that was told ahead, or on none."""
    if _is_mark(text, start, "C"):
        one, at = _read_column(text, start, base)
        other, at = _read_column(text, behind_sign(text, at, ":"), base)
        return _area_node((1, False), one, (1, False), other, sheet, "columns"), at
    row, at = _read_row(text, start, base)
    if char_at(text, at) == ":":
        last, at = _read_row(text, at + 1, base)
        return _area_node(row, (1, False), last, (1, False), sheet, "rows"), at
    column, at = _read_column(text, at, base)
    if char_at(text, at) == "#":
        return _cell_node("spill", row, column, sheet), at + 1
    if char_at(text, at) != ":":
        return _cell_node("cell", row, column, sheet), at
    last, at = _read_row(text, at + 1, base)
    other, at = _read_column(text, at, base)
    return _area_node(row, column, last, other, sheet, None), at


def begins_relative(text, start, end):
    """Whether the word between two places, and what stands behind it, can be nothing but a reference."""
    has_row, has_column, is_open = _sort_of_word(text[start:end])
    sign = char_at(text, end)
    if sign == "[":
        return is_open
    if sign == "#":
        return has_row and has_column
    return sign == ":" and (has_row or has_column)


def is_relative_cell(word):
    """Whether a word by itself is a cell of the relative notation."""
    has_row, has_column, _ = _sort_of_word(word)
    return has_row and has_column


def _sort_of_word(word):
    """Whether a word is a row, or a row and a column; whether it is a column; and whether a bracket may follow."""
    at = 0
    has_row = _is_mark(word, at, "R")
    if has_row:
        at = _behind_number(word, at + 1, ROWS)
    has_column = _is_mark(word, at, "C")
    if has_column:
        at = _behind_number(word, at + 1, COLUMNS)
    if at < len(word):
        return False, False, False
    return has_row, has_column, not is_digit(word[-1])


def _behind_number(word, start, most):
    """The place behind the digits of a number of the grid; the place itself where none stands."""
    end = behind_digits(word, start)
    if end == start:
        return start
    return end if word[start] != "0" and int(word[start:end]) <= most else start


def _is_mark(text, at, letter):
    """Whether "R" or "C" stands at a place, in any capitals."""
    return text[at:at + 1].upper() == letter


def _read_row(text, start, base):
    """The row that is written at a place."""
    if not _is_mark(text, start, "R"):
        raise NotAFormula(start)
    return _read_number(text, start + 1, base.row, ROWS)


def _read_column(text, start, base):
    """The column that is written at a place."""
    if not _is_mark(text, start, "C"):
        raise NotAFormula(start)
    return _read_number(text, start + 1, base.column, COLUMNS)


def _read_number(text, start, seen_from, most):
    """The number of a row or a column behind its letter."""
    if is_digit(char_at(text, start)):
        number, at = read_place_number(text, start, most)
        return (number, True), at
    if char_at(text, start) != "[":
        return (seen_from, False), start
    begin = start + 2 if char_at(text, start + 1) == "-" else start + 1
    at = begin
    while at < begin + MOST_STEP_DIGITS and is_digit(char_at(text, at)) and text[begin] != "0":
        at = at + 1
    if at == begin or char_at(text, at) != "]":
        raise NotAFormula(at)
    return (seen_from + int(text[start + 1:at]), False), at + 1


def _cell_node(word, row, column, sheet):
    """The node of a cell or a spill; REF if it lies off the grid."""
    if not is_on_grid(row[0], column[0]):
        return ("fault", "REF")
    return (word, marked_address(row, column, sheet))


def _area_node(row, column, last, other, sheet, whole):
    """The node of an area; REF if a corner lies off the grid."""
    if not is_on_grid(row[0], column[0]) or not is_on_grid(last[0], other[0]):
        return ("fault", "REF")
    return ("area", Area(marked_address(row, column, sheet), marked_address(last, other, sheet), whole=whole))
