"""Areas that are continued."""

from allinputs.areas import MOST_CELLS
from allinputs.book import check_book, put_contents
from allinputs.checks import check_string
from allinputs.edits import rect_at
from allinputs.errors import BadValue, TooHigh, TooMany
from allinputs.moving import moved_content
from allinputs.ratios import Ratio
from allinputs.rects import many_cells
from allinputs.wholes import MOST_DIGITS, is_long


def fill_cells(book, area, onto):
    """Continues an area within a greater one that begins or ends with it."""
    check_book(book)
    check_string(area)
    check_string(onto)
    rect, outer = rect_at(book, area), rect_at(book, onto)
    side = _side_of(rect, outer)
    if side is None:
        raise BadValue(onto)
    if many_cells(outer) > MOST_CELLS:
        raise TooMany(MOST_CELLS)
    fresh = {}
    for place in range(rect[2 - side], rect[4 - side] + 1):
        line = _continued(book.held.contents, rect, outer, place, side)
        for cell in line:
            fresh[cell] = line[cell]
    put_contents(book, fresh)


def _side_of(rect, outer):
    """0 if an area is continued downwards or upwards within another one, 1 if to the right or left, None if neither."""
    for side in (0, 1):
        is_alike = rect[0] == outer[0] and rect[2 - side] == outer[2 - side] and rect[4 - side] == outer[4 - side]
        begin, end = 1 + side, 3 + side
        if is_alike and rect[begin] == outer[begin] and rect[end] <= outer[end]:
            return side
        if is_alike and rect[end] == outer[end] and rect[begin] >= outer[begin]:
            return side
    return None


def _continued(contents, rect, outer, place, side):
    """A dict from the cells of the continued line at a place to what they get."""
    first, many = rect[1 + side], rect[3 + side] - rect[1 + side] + 1
    line = [contents.get(_cell_of(rect[0], first + at, place, side)) for at in range(many)]
    is_numbers = many > 1 and all([isinstance(content, Ratio) for content in line])
    start, step = _straight(line) if is_numbers else (None, None)
    fresh = {}
    for number in range(outer[1 + side], outer[3 + side] + 1):
        at = number - first
        if at < 0 or at >= many:
            if is_numbers:
                told = _checked(start + step * at)
            else:
                away = at - at % many
                told = moved_content(line[at % many], away if side == 0 else 0, away if side == 1 else 0)
            fresh[_cell_of(rect[0], number, place, side)] = told
    return fresh


def _cell_of(sheet, number, place, side):
    """The cell of a line at a place, in the row with a number, or in the column with it if side is 1."""
    return (sheet, number, place) if side == 0 else (sheet, place, number)


def _straight(line):
    """The numbers a and b for which a + b * i is nearest to the numbers of a line, by the sum of the squares."""
    many = len(line)
    total = weighted = Ratio(0)
    for at, number in enumerate(line):
        total = total + number
        weighted = weighted + number * at
    # The sum of all i, and that of their squares, by which the two equations for a and b are solved.
    places = many * (many - 1) // 2
    squares = (many - 1) * many * (2 * many - 1) // 6
    step = (weighted * many - total * places) * Ratio(1, many * squares - places * places)
    return (total - step * places) * Ratio(1, many), step


def _checked(ratio):
    """A Ratio that has not too many digits."""
    if is_long(ratio.top) or is_long(ratio.bottom):
        raise TooHigh(MOST_DIGITS)
    return ratio
