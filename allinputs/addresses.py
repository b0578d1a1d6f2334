"""Addresses: the names of cells."""

from allinputs.checks import check_integer, check_range, check_string, check_truth
from allinputs.errors import BadValue, NotAName, OffGrid
from allinputs.ordering import small_letters

ROWS = 1000000
COLUMNS = 18278

_LETTERS = "ABCDEFGHIJKLMNOPQRSTUVWXYZ"


class Address:
    """A row and a column, each of which may be fixed, and perhaps the name of a sheet."""

    def __init__(self, row, column, *, fixed_row=False, fixed_column=False, sheet=None):
        check_integer(row)
        check_integer(column)
        check_truth(fixed_row)
        check_truth(fixed_column)
        if sheet is not None and not is_sheet_name(sheet):
            raise BadValue(sheet)
        if not is_on_grid(row, column):
            raise OffGrid(row, column)
        self.row = row
        self.column = column
        self.fixed_row = fixed_row
        self.fixed_column = fixed_column
        self.sheet = sheet

    def __eq__(self, other):
        if not isinstance(other, Address):
            return False
        if self.row != other.row or self.column != other.column or not alike_sheets(self.sheet, other.sheet):
            return False
        return self.fixed_row == other.fixed_row and self.fixed_column == other.fixed_column

    def pushed(self, rows, columns):
        """The Address so many rows and columns on, with the same marks and sheet."""
        check_integer(rows)
        check_integer(columns)
        return Address(
            self.row + rows,
            self.column + columns,
            fixed_row=self.fixed_row,
            fixed_column=self.fixed_column,
            sheet=self.sheet,
        )

    def bare(self):
        """The Address without marks and sheet."""
        return Address(self.row, self.column)


def letters_of(column):
    """The letters of a column."""
    check_range(column, 1, COLUMNS)
    letters = ""
    left = column
    while left > 0:
        left, at = divmod(left - 1, len(_LETTERS))
        letters = _LETTERS[at] + letters
    return letters


def column_of(letters):
    """The column with these letters, capitals or small."""
    check_string(letters)
    if not is_column_text(letters):
        raise NotAName(letters)
    column = 0
    for letter in letters.upper():
        column = column * len(_LETTERS) + _LETTERS.index(letter) + 1
    return column


def address_text(address):
    """The text of an Address."""
    if not isinstance(address, Address):
        raise BadValue(address)
    sheet = "" if address.sheet is None else f"{address.sheet}!"
    column = "$" if address.fixed_column else ""
    row = "$" if address.fixed_row else ""
    return f"{sheet}{column}{letters_of(address.column)}{row}{address.row}"


def read_address(text):
    """The Address with this text."""
    check_string(text)
    sheet, mark, cell = text.rpartition("!")
    if mark and not is_sheet_name(sheet):
        raise NotAName(text)
    letters, fixed_column, digits, fixed_row = split_cell(cell)
    if not is_column_text(letters) or not is_row_text(digits):
        raise NotAName(text)
    return Address(
        int(digits),
        column_of(letters),
        fixed_row=fixed_row,
        fixed_column=fixed_column,
        sheet=sheet if mark else None,
    )


def is_on_grid(row, column):
    """Whether there is a cell in a row and a column."""
    return 1 <= row <= ROWS and 1 <= column <= COLUMNS


def marked_address(row, column, sheet):
    """The Address of a row and a column, each told as the pair of its number and whether it is fixed."""
    return Address(row[0], column[0], fixed_row=row[1], fixed_column=column[1], sheet=sheet)


def placed(address, row, column):
    """An Address in another row and column, with the marks and the sheet of one; None off the grid."""
    if not is_on_grid(row, column):
        return None
    return Address(
        row, column, fixed_row=address.fixed_row, fixed_column=address.fixed_column, sheet=address.sheet,
    )


def is_sheet_name(name):
    """Whether something is a name of a sheet."""
    if not isinstance(name, str) or len(name) < 1 or len(name) > 12:
        return False
    return name.isascii() and name.isalnum() and name[0].isalpha()


def alike_sheets(one, other):
    """Whether two names of sheets are alike but for capitals, or both lacking."""
    if one is None or other is None:
        return one is None and other is None
    return small_letters(one) == small_letters(other)


def is_letters(text):
    """Whether all characters of a string are letters from A to Z or a to z."""
    return text.isascii() and text.isalpha()


def is_column_text(text):
    """Whether a string is one to three letters."""
    return 1 <= len(text) <= 3 and is_letters(text)


def is_row_text(text):
    """Whether a string is the number of a row, without a 0 ahead."""
    if len(text) > len(str(ROWS)) or not text.isascii() or not text.isdigit():
        return False
    return text[0] != "0" and int(text) <= ROWS


def split_cell(text):
    """The letters of a text, whether "$" is ahead of them, what is behind them, and whether "$" is ahead of it."""
    fixed_column = text.startswith("$")
    column = text.removeprefix("$")
    many = 0
    while many < len(column) and is_letters(column[many]):
        many = many + 1
    row = column[many:]
    return column[:many], fixed_column, row.removeprefix("$"), row.startswith("$")
