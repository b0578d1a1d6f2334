"""Cells that are moved and copied."""

from allinputs.addresses import is_on_grid
from allinputs.book import cell_at, check_book, put_contents
from allinputs.checks import check_string
from allinputs.edits import Move, edit_book, rect_at
from allinputs.errors import OffGrid
from allinputs.rects import cells_held_in
from allinputs.trees import moved_tree


def move_cells(book, area, place):
    """Moves what the cells of an area hold to a place; references follow."""
    rect, sheet, down, right = _target_of(book, area, place)
    edit_book(book, Move(rect, sheet, down, right))


def copy_cells(book, area, place):
    """Makes the cells at a place hold what those of an area hold."""
    rect, sheet, down, right = _target_of(book, area, place)
    contents = book.held.contents
    target = (sheet, rect[1] + down, rect[2] + right, rect[3] + down, rect[4] + right)
    fresh = {cell: None for cell in cells_held_in(target, contents)}
    for cell in cells_held_in(rect, contents):
        fresh[(sheet, cell[1] + down, cell[2] + right)] = moved_content(contents[cell], down, right)
    put_contents(book, fresh)


def moved_content(content, down, right):
    """What a cell so many rows and columns on gets from a content."""
    return moved_tree(content, down, right) if isinstance(content, tuple) else content


def _target_of(book, area, place):
    """The rectangle of an area, and the sheet and the distance in rows and columns of the target at a place."""
    check_book(book)
    check_string(area)
    check_string(place)
    rect = rect_at(book, area)
    sheet, row, column = cell_at(book, place)
    down, right = row - rect[1], column - rect[2]
    if not is_on_grid(rect[3] + down, rect[4] + right):
        raise OffGrid(rect[3] + down, rect[4] + right)
    return rect, sheet, down, right
