"""What the tests of books share."""

from allinputs.book import Book
from allinputs.ratios import Ratio
from allinputs.values import Fault, same
from allinputs.working import fresh_values, last_worked
from tests.calls import thing
from tests.helper import Case


def book_of(cells, names=None, sheets=()):
    """A Book with texts in cells, formulas for names, and more sheets."""
    book = Book()
    for sheet in sheets:
        book.add_sheet(sheet)
    for name, text in (names or {}).items():
        book.define(name, text)
    for place, text in cells.items():
        book.put(place, text)
    return book


def all_texts(book):
    """A dict from the places of a Book, of the first sheet without its name, to their texts."""
    first = book.sheets()[0] + "!"
    return {place.removeprefix(first): book.text_of(place) for place in book.holding()}


def as_told(value):
    """A value as tests write it: integers for Ratios that are some, "#NA" for faults."""
    if isinstance(value, Fault):
        return str(value)
    if isinstance(value, Ratio) and value.bottom == 1:
        return value.top
    return value


class BookCase(Case):
    """Checks of books."""

    def values(self, book, told):
        """Cells have these values, and those that hold something also if all is worked anew."""
        fresh = fresh_values(book)
        for place, value in told.items():
            found = book.value_of(place)
            self.assertTrue(same(found, thing(value)), f"{place}: {as_told(found)}, not {value}")
        for place in book.holding():
            if place in fresh:
                self.assertTrue(same(book.value_of(place), fresh[place]), place)

    def texts(self, book, told):
        """A book holds just these texts."""
        self.assertEqual(all_texts(book), told)

    def worked(self, book, told):
        """The last call worked these anew, in this order; cells of the first sheet are told without its name."""
        first = book.sheets()[0] + "!"
        self.assertEqual([place.removeprefix(first) for place in last_worked(book)], told.split())

    def stays(self, book, error, fields, call, *arguments, **named):
        """A call raises an error, and the book is as it was."""
        before, worked = book.copied(), last_worked(book)
        self.fails(error, fields, call, *arguments, **named)
        self.assertTrue(book == before)
        self.assertEqual(last_worked(book), worked)

    def stays_bad(self, book, value, call, *arguments, **named):
        """A call raises BadValue with just this object, and the book is as it was."""
        before = book.copied()
        self.bad(value, call, *arguments, **named)
        self.assertTrue(book == before)
