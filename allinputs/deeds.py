"""Deeds: words with all arguments of what changes books."""

from allinputs.errors import BadValue
from allinputs.exchange import put_rows
from allinputs.filling import fill_cells
from allinputs.moving import copy_cells, move_cells
from allinputs.sorting import sort_rows
from allinputs.structure import (
    close_cells, delete_columns, delete_rows, insert_columns, insert_rows, open_cells,
)


def check_deed(deed):
    """A deed, by its word and the number of its arguments."""
    if not isinstance(deed, (list, tuple)) or len(deed) == 0 or not isinstance(deed[0], str):
        raise BadValue(deed)
    if deed[0] not in _MANY or len(deed) != 1 + _MANY[deed[0]]:
        raise BadValue(deed)


def do_deed(book, deed):
    """Does a deed in a Book."""
    action = _ACTIONS[deed[0]]
    action(book, deed[1:])


def does_follow(deed):
    """Whether references follow a deed."""
    return deed[0] in _FOLLOWED


def _put(book, told):
    """A content."""
    book.put(told[0], told[1])


def _define(book, told):
    """A name."""
    book.define(told[0], told[1])


def _undefine(book, told):
    """A name that is taken out."""
    book.undefine(told[0])


def _add_sheet(book, told):
    """A sheet."""
    book.add_sheet(told[0])


def _rename_sheet(book, told):
    """Another name of a sheet."""
    book.rename_sheet(told[0], told[1])


def _drop_sheet(book, told):
    """A sheet that is taken out."""
    book.drop_sheet(told[0])


def _insert_rows(book, told):
    """Rows put in."""
    insert_rows(book, told[0], told[1], told[2])


def _insert_columns(book, told):
    """Columns put in."""
    insert_columns(book, told[0], told[1], told[2])


def _delete_rows(book, told):
    """Rows taken out."""
    delete_rows(book, told[0], told[1], told[2])


def _delete_columns(book, told):
    """Columns taken out."""
    delete_columns(book, told[0], told[1], told[2])


def _open_cells(book, told):
    """Room."""
    open_cells(book, told[0], down=told[1])


def _close_cells(book, told):
    """Cells taken out."""
    close_cells(book, told[0], up=told[1])


def _move_cells(book, told):
    """Cells that are moved."""
    move_cells(book, told[0], told[1])


def _copy_cells(book, told):
    """Cells that are copied."""
    copy_cells(book, told[0], told[1])


def _fill_cells(book, told):
    """An area that is continued."""
    fill_cells(book, told[0], told[1])


def _sort_rows(book, told):
    """Rows that are sorted."""
    sort_rows(book, told[0], told[1])


def _put_rows(book, told):
    """Rows of contents."""
    put_rows(book, told[0], told[1])


_ACTIONS = {
    "put": _put, "define": _define, "undefine": _undefine, "add_sheet": _add_sheet, "rename_sheet": _rename_sheet,
    "drop_sheet": _drop_sheet, "insert_rows": _insert_rows, "insert_columns": _insert_columns,
    "delete_rows": _delete_rows, "delete_columns": _delete_columns, "open_cells": _open_cells,
    "close_cells": _close_cells, "move_cells": _move_cells, "copy_cells": _copy_cells, "fill_cells": _fill_cells,
    "sort_rows": _sort_rows, "put_rows": _put_rows,
}

# How many arguments each deed has behind its word.
_MANY = {
    "put": 2, "define": 2, "undefine": 1, "add_sheet": 1, "rename_sheet": 2, "drop_sheet": 1, "insert_rows": 3,
    "insert_columns": 3, "delete_rows": 3, "delete_columns": 3, "open_cells": 2, "close_cells": 2, "move_cells": 2,
    "copy_cells": 2, "fill_cells": 2, "sort_rows": 2, "put_rows": 2,
}

_FOLLOWED = (
    "add_sheet", "rename_sheet", "drop_sheet", "insert_rows", "insert_columns", "delete_rows", "delete_columns",
    "open_cells", "close_cells", "move_cells",
)
