"""Areas: all cells of a sheet between two corners."""

from allinputs.addresses import (
    COLUMNS, ROWS, Address, address_text, alike_sheets, column_of, is_column_text, is_row_text, is_sheet_name,
    letters_of, marked_address, read_address, split_cell,
)
from allinputs.checks import check_string
from allinputs.errors import BadValue, NotAName, TooMany

MOST_CELLS = 10000

SORTS = (None, "columns", "rows")


class Area:
    """An area with normal corners: the first one has the lesser row and the lesser column."""

    def __init__(self, first, last, *, whole=None):
        check_address(first)
        check_address(last)
        if last.sheet is not None and not alike_sheets(first.sheet, last.sheet):
            raise BadValue(last)
        if whole is not None and whole not in ("columns", "rows"):
            raise BadValue(whole)
        rows = _ordered((first.row, first.fixed_row), (last.row, last.fixed_row))
        columns = _ordered((first.column, first.fixed_column), (last.column, last.fixed_column))
        if whole == "columns":
            rows = (1, False), (ROWS, False)
        if whole == "rows":
            columns = (1, False), (COLUMNS, False)
        self.first = marked_address(rows[0], columns[0], first.sheet)
        self.last = marked_address(rows[1], columns[1], first.sheet)
        self.whole = whole
        self.sheet = first.sheet
        self.height = self.last.row - self.first.row + 1
        self.width = self.last.column - self.first.column + 1

    def __eq__(self, other):
        return (
            isinstance(other, Area) and self.first == other.first and self.last == other.last
            and self.whole == other.whole
        )

    def has(self, address):
        """Whether an Address is one of the cells; a sheet does not matter if one of the two has none."""
        check_address(address)
        if not may_meet(self.sheet, address.sheet):
            return False
        if address.row < self.first.row or address.row > self.last.row:
            return False
        return self.first.column <= address.column <= self.last.column

    def common(self, other):
        """The Area of the cells in common with another one, or None."""
        check_area(other)
        if not may_meet(self.sheet, other.sheet):
            return None
        top, bottom = max(self.first.row, other.first.row), min(self.last.row, other.last.row)
        left, right = max(self.first.column, other.first.column), min(self.last.column, other.last.column)
        if top > bottom or left > right:
            return None
        sheet = other.sheet if self.sheet is None else self.sheet
        return area_between(top, left, bottom, right, sheet, self.whole if self.whole == other.whole else None)

    def without(self, other):
        """The tuple of at most four Areas that this one less another one consists of."""
        check_area(other)
        met = self.common(other)
        top, bottom = self.first.row, self.last.row
        left, right = self.first.column, self.last.column
        if met is None:
            return (self._part(top, left, bottom, right),)
        parts = []
        if top < met.first.row:
            parts.append(self._part(top, left, met.first.row - 1, right))
        if met.last.row < bottom:
            parts.append(self._part(met.last.row + 1, left, bottom, right))
        if left < met.first.column:
            parts.append(self._part(met.first.row, left, met.last.row, met.first.column - 1))
        if met.last.column < right:
            parts.append(self._part(met.first.row, met.last.column + 1, met.last.row, right))
        return tuple(parts)

    def cells(self):
        """The tuple of the Addresses of all cells, row by row, without marks."""
        if self.height * self.width > MOST_CELLS:
            raise TooMany(MOST_CELLS)
        return tuple([
            Address(row, column, sheet=self.sheet)
            for row in range(self.first.row, self.last.row + 1)
            for column in range(self.first.column, self.last.column + 1)
        ])

    def _part(self, top, left, bottom, right):
        """A part of this area; it is of whole columns or rows if this one is and it has all of their cells."""
        is_whole = (self.whole == "columns" and top == 1 and bottom == ROWS) or (
            self.whole == "rows" and left == 1 and right == COLUMNS)
        return area_between(top, left, bottom, right, self.sheet, self.whole if is_whole else None)


def check_address(value):
    """An Address."""
    if not isinstance(value, Address):
        raise BadValue(value)


def check_area(value):
    """An Area."""
    if not isinstance(value, Area):
        raise BadValue(value)


def may_meet(one, other):
    """Whether two sheets are alike, or one of the two is not told."""
    return one is None or other is None or alike_sheets(one, other)


def area_between(top, left, bottom, right, sheet, whole):
    """The Area between two corners, without marks."""
    return Area(Address(top, left, sheet=sheet), Address(bottom, right, sheet=sheet), whole=whole)


def area_text(area):
    """The text of an Area; one of one cell and of neither sort is written as the cell."""
    check_area(area)
    text = corners_text(area)
    one, _, other = text.partition(":")
    if area.whole is None and one == other:
        text = one
    return text if area.sheet is None else f"{area.sheet}!{text}"


def corners_text(area):
    """Both corners of an Area with ":" between, without the name of its sheet."""
    return f"{corner_text(area.first, area.whole)}:{corner_text(area.last, area.whole)}"


def corner_text(corner, whole):
    """A corner without its sheet; of whole columns without its row, of whole rows without its column."""
    if whole == "columns":
        return ("$" if corner.fixed_column else "") + letters_of(corner.column)
    if whole == "rows":
        return ("$" if corner.fixed_row else "") + str(corner.row)
    return address_text(corner).rpartition("!")[2]


def read_area(text):
    """The Area with this text."""
    check_string(text)
    sheet, mark, body = text.rpartition("!")
    if mark and not is_sheet_name(sheet):
        raise NotAName(text)
    one, between, other = body.partition(":")
    named = sheet if mark else None
    if not between:
        corner = _read_corner(body, None, named)
        if corner is None:
            raise NotAName(text)
        return Area(corner, corner)
    for whole in SORTS:
        first, last = _read_corner(one, whole, named), _read_corner(other, whole, named)
        if first is not None and last is not None:
            return Area(first, last, whole=whole)
    raise NotAName(text)


def _read_corner(text, whole, sheet):
    """The Address of a corner of an area of a sort, None if the text is none of such a corner."""
    fixed = text.startswith("$")
    bare = text.removeprefix("$")
    if whole == "columns":
        return Address(1, column_of(bare), fixed_column=fixed, sheet=sheet) if is_column_text(bare) else None
    if whole == "rows":
        return Address(int(bare), 1, fixed_row=fixed, sheet=sheet) if is_row_text(bare) else None
    letters, _, digits, _ = split_cell(text)
    if not is_column_text(letters) or not is_row_text(digits):
        return None
    return read_address(text if sheet is None else f"{sheet}!{text}")


def _ordered(one, other):
    """Two pairs of a number and whether it is fixed, the lesser number ahead; one of two equal ones is the first."""
    if one[0] == other[0]:
        return (one[0], one[1] or other[1]), (one[0], one[1] and other[1])
    return (one, other) if one[0] < other[0] else (other, one)
