"""Rows, columns and cells that are put in and taken out."""

from allinputs.addresses import COLUMNS, ROWS
from allinputs.book import check_book, sheet_at
from allinputs.checks import check_range, check_string, check_truth
from allinputs.edits import Shift, edit_book, rect_at
from allinputs.errors import OffGrid


def insert_rows(book, sheet, at, many):
    """Puts in empty rows ahead of a row."""
    _check_lines(book, sheet, at, many, ROWS, ROWS)
    _put_in(book, Shift(sheet_at(book, sheet), at, many, (1, COLUMNS), 0))


def insert_columns(book, sheet, at, many):
    """Puts in empty columns ahead of a column."""
    _check_lines(book, sheet, at, many, COLUMNS, COLUMNS)
    _put_in(book, Shift(sheet_at(book, sheet), at, many, (1, ROWS), 1))


def delete_rows(book, sheet, at, many):
    """Takes out rows, from one on."""
    _check_lines(book, sheet, at, many, ROWS, None)
    edit_book(book, Shift(sheet_at(book, sheet), at, -many, (1, COLUMNS), 0))


def delete_columns(book, sheet, at, many):
    """Takes out columns, from one on."""
    _check_lines(book, sheet, at, many, COLUMNS, None)
    edit_book(book, Shift(sheet_at(book, sheet), at, -many, (1, ROWS), 1))


def open_cells(book, area, *, down=True):
    """Puts in as many rows as an area has within its columns, or as many columns within its rows."""
    check_book(book)
    check_string(area)
    check_truth(down)
    sheet, top, left, bottom, right = rect_at(book, area)
    if down:
        _put_in(book, Shift(sheet, top, bottom - top + 1, (left, right), 0))
    else:
        _put_in(book, Shift(sheet, left, right - left + 1, (top, bottom), 1))


def close_cells(book, area, *, up=True):
    """Takes out the rows of an area within its columns, or its columns within its rows."""
    check_book(book)
    check_string(area)
    check_truth(up)
    sheet, top, left, bottom, right = rect_at(book, area)
    if up:
        edit_book(book, Shift(sheet, top, top - bottom - 1, (left, right), 0))
    else:
        edit_book(book, Shift(sheet, left, left - right - 1, (top, bottom), 1))


def _check_lines(book, sheet, at, many, lines, most):
    """A Book, a string, the number of one of some lines, and how many; most is None for those from this one on."""
    check_book(book)
    check_string(sheet)
    check_range(at, 1, lines)
    check_range(many, 1, lines - at + 1 if most is None else most)


def _put_in(book, shift):
    """Puts in rows or columns, if no cell that holds something would leave the grid."""
    for cell in sorted(list(book.held.contents)):
        _, row, column = shift.cell_behind(cell)
        if row > ROWS or column > COLUMNS:
            raise OffGrid(row, column)
    edit_book(book, shift)
