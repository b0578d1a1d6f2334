"""Texts of books."""

from allinputs.addresses import Address, address_text, alike_sheets, is_sheet_name, read_address
from allinputs.book import Book, check_book, is_content_text, put_contents
from allinputs.checks import check_string
from allinputs.contents import content_for
from allinputs.errors import BadFile, BadValue, NotAFormula, NotAName, TooMany
from allinputs.ordering import small_letters
from allinputs.parser import MOST_FORMULA_CHARACTERS, read_formula
from allinputs.rowtexts import has_right_signs
from allinputs.words import is_name


class BookReading:
    """Lines of the text of a book that are read one after another."""

    def __init__(self):
        self.tabs = []
        self.contents = {}
        self.named = {}

    def take(self, number, line):
        """A line was read, the first one being number 1."""
        if line.startswith("sheet "):
            name = line.removeprefix("sheet ")
            if not is_sheet_name(name) or any([alike_sheets(name, sheet) for sheet in self.tabs]):
                raise BadFile(number, len("sheet "))
            self.tabs.append(name)
        elif line.startswith("name "):
            self._take_name(number, line)
        else:
            self._take_cell(number, line)

    def _take_name(self, number, line):
        """A line of a name was read."""
        start = len("name ")
        word, _, text = line[start:].partition(" ")
        name = small_letters(word)
        if not is_name(word) or name in self.named:
            raise BadFile(number, start)
        at = start + len(word) + 1
        if text == "":
            raise BadFile(number, len(line))
        if len(text) >= MOST_FORMULA_CHARACTERS:
            raise BadFile(number, at)
        try:
            read_formula("=" + text)
        except TooMany as error:
            raise BadFile(number, at) from error
        except NotAFormula as error:
            raise BadFile(number, at + error.at - 1) from error
        self.named[name] = text

    def _take_cell(self, number, line):
        """A line of a cell was read."""
        word, space, text = line.partition(" ")
        place = _bare_place(word)
        if place is None or space == "" or not self.tabs:
            raise BadFile(number, 0)
        cell = (len(self.tabs) - 1,) + place
        if cell in self.contents:
            raise BadFile(number, 0)
        at = len(word) + 1
        if text == "":
            raise BadFile(number, len(line))
        if not is_content_text(text):
            raise BadFile(number, at)
        try:
            self.contents[cell] = content_for(text)
        except TooMany as error:
            raise BadFile(number, at) from error
        except NotAFormula as error:
            raise BadFile(number, at + error.at) from error


def book_text(book):
    """The text of a Book."""
    check_book(book)
    held = book.held
    cells = sorted(list(held.texts))
    lines = []
    for at, sheet in enumerate(held.tabs):
        lines.append(f"sheet {sheet}")
        for cell in cells:
            if cell[0] == at:
                lines.append(f"{address_text(Address(cell[1], cell[2]))} {held.texts[cell]}")
    for name, text in book.names().items():
        lines.append(f"name {name} {text}")
    return "".join([line + "\n" for line in lines])


def read_book(text):
    """The Book with a text."""
    check_string(text)
    if not has_right_signs(text):
        raise BadValue(text)
    lines = text.split("\n")
    if lines[-1] == "":
        lines = lines[:-1]
    reading = BookReading()
    for at, line in enumerate(lines):
        reading.take(at + 1, line)
    if not reading.tabs:
        raise BadFile(len(lines) + 1, 0)
    book = Book()
    book.rename_sheet("Sheet1", reading.tabs[0])
    for sheet in reading.tabs[1:]:
        book.add_sheet(sheet)
    put_contents(book, reading.contents)
    for name, formula in reading.named.items():
        book.define(name, formula)
    return book


def _bare_place(word):
    """The pair of the row and the column of a place without a sheet and marks; None if a text is none."""
    try:
        address = read_address(word)
    except NotAName:
        return None
    return None if "$" in word or "!" in word else (address.row, address.column)
