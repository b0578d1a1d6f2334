"""Values put elsewhere: as texts of contents."""

from allinputs.addresses import is_on_grid
from allinputs.areas import MOST_CELLS, read_area
from allinputs.book import cell_at, check_book, is_content_text, put_contents, sheet_at, value_in
from allinputs.checks import check_list, check_string
from allinputs.contents import content_for, text_of_content
from allinputs.errors import BadValue, NotTold, OffGrid, TooMany
from allinputs.ratios import Ratio
from allinputs.rects import many_cells, rect_of
from allinputs.values import Fault, check_value


def content_text(value):
    """The text of a content with a value."""
    check_value(value)
    if value is None:
        return ""
    if isinstance(value, Fault):
        return f"=#{value.kind}"
    if not isinstance(value, (Ratio, bool, str)):
        raise NotTold()
    return text_of_content(value)


def area_rows(book, area):
    """The list of the lists of the content texts of the values of an area, row by row."""
    check_book(book)
    check_string(area)
    told = read_area(area)
    if many_cells(rect_of(told, 0)) > MOST_CELLS:
        raise TooMany(MOST_CELLS)
    sheet, top, left, bottom, right = rect_of(told, sheet_at(book, told.sheet))
    columns = range(left, right + 1)
    return [
        [content_text(value_in(book, (sheet, row, column))) for column in columns] for row in range(top, bottom + 1)
    ]


def put_rows(book, place, rows):
    """Puts texts as contents into a cell and the cells to the right and below, as one change."""
    check_book(book)
    check_string(place)
    check_list(rows)
    for row in rows:
        if not _is_row(row):
            raise BadValue(row)
    sheet, top, left = cell_at(book, place)
    fresh = {}
    for down, row in enumerate(rows):
        for right, text in enumerate(row):
            if not is_on_grid(top + down, left + right):
                raise OffGrid(top + down, left + right)
            fresh[(sheet, top + down, left + right)] = content_for(text)
    put_contents(book, fresh)


def _is_row(row):
    """Whether something is a list of strings that put takes."""
    if not isinstance(row, (list, tuple)):
        return False
    return all([isinstance(text, str) and is_content_text(text) for text in row])
