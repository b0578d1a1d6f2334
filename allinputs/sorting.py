"""Rows of cells that are sorted."""

from allinputs.areas import MOST_CELLS
from allinputs.book import check_book, put_contents, value_in
from allinputs.checks import check_string, is_integer
from allinputs.edits import rect_at
from allinputs.errors import BadValue, TooMany
from allinputs.moving import moved_content
from allinputs.rects import cells_of, many_cells
from allinputs.shaping import arranged_by

MOST_COLUMNS = 8


def sort_rows(book, area, by):
    """Puts the rows of an area into the order of their values in some columns."""
    check_book(book)
    check_string(area)
    rect = rect_at(book, area)
    _check_columns(by, rect[4] - rect[2] + 1)
    if many_cells(rect) > MOST_CELLS:
        raise TooMany(MOST_CELLS)
    rows = list(range(rect[1], rect[3] + 1))
    # The last column is sorted by first: rows that are equal in the others stay in the order that it leaves.
    for column, is_down in list(reversed(by)):
        pairs = [(value_in(book, (rect[0], row, rect[2] + column - 1)), row) for row in rows]
        rows = [row for _, row in arranged_by(pairs, is_down)]
    contents = book.held.contents
    fresh = {}
    for cell in cells_of(rect):
        source = rows[cell[1] - rect[1]]
        fresh[cell] = moved_content(contents.get((cell[0], source, cell[2])), cell[1] - source, 0)
    put_contents(book, fresh)


def _check_columns(by, width):
    """A list of 1 to 8 pairs of a column and whether it is sorted downwards."""
    if not isinstance(by, (list, tuple)):
        raise BadValue(by)
    for pair in by:
        if not _is_column(pair, width):
            raise BadValue(pair)
    if len(by) < 1 or len(by) > MOST_COLUMNS:
        raise BadValue(by)


def _is_column(pair, width):
    """Whether something is a pair of one of so many columns and a truth."""
    if not isinstance(pair, (list, tuple)) or len(pair) != 2 or not isinstance(pair[1], bool):
        return False
    return is_integer(pair[0]) and 1 <= pair[0] <= width
