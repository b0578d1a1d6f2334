"""What the tests of told rows share."""

from allinputs.curves import Curve, curve_text
from allinputs.members import Member
from allinputs.points import Point
from allinputs.ratios import Ratio
from allinputs.rowparts import Edge, Piece
from allinputs.spans import Span
from allinputs.told import Told
from allinputs.values import same
from tests.books import BookCase, book_of


def value_text(value):
    """A value as the tests write it."""
    if isinstance(value, Curve):
        return curve_text(value)
    if isinstance(value, Member):
        return "~" + value.digits(3)
    if isinstance(value, str):
        return repr(value)
    return str(value)


def place_text(place):
    """A place as the tests write it: a Ratio, a Point by its first decimals, "" for no end, or a Span."""
    if place is None:
        return ""
    if isinstance(place, Span):
        return f"({place_text(place.low)},{place_text(place.high)})"
    return "~" + place.digits(3) if isinstance(place, Point) else str(place)


def row_text(parts):
    """A told row as the tests write it: "(,0): x | 0: 5 | (0,): 1/x"."""
    return " | ".join([
        f"{place_text(part.span if isinstance(part, Piece) else part.point)}: {value_text(part.value)}" for part in parts
    ])


def places_text(places):
    """Places that are told as a tuple."""
    return " ".join([place_text(place) for place in places])


def told_of(cells, free="A1", low=None, high=None, **more):
    """The Told of a book with texts in cells."""
    return Told(book_of(cells, **more), free, low, high)


class RowCase(BookCase):
    """Checks of told rows."""

    def row(self, told, cell, text):
        """The told row of a cell is this, and is put together rightly."""
        parts = told.pieces(cell)
        self.well_made(parts, told.low, told.high)
        self.assertEqual(row_text(parts), text)

    def well_made(self, parts, low, high):
        """A told row is pieces and edges by turns, from end to end."""
        self.assertIs(type(parts), tuple)
        self.assertEqual(isinstance(parts[0], Edge), low is not None)
        self.assertEqual(isinstance(parts[-1], Edge), high is not None)
        if low is not None:
            self.assertEqual(parts[0].point, low)
        if high is not None:
            self.assertEqual(parts[-1].point, high)
        for part, other in zip(parts, parts[1:]):
            self.assertNotEqual(type(part), type(other))
            if isinstance(part, Piece):
                self.assertEqual(part.span.high, other.point)
            else:
                self.assertEqual(part.point, other.span.low)
        for part in parts:
            if isinstance(part, Edge):
                self.assertTrue(isinstance(part.point, Ratio) or part.point.ratio() is None)
            elif isinstance(part.value, Curve):
                self.assertFalse(part.value.is_level())

    def agrees(self, book, free, cells, ratios, low=None, high=None):
        """The told rows of cells tell what the book does with ratios in the free cell."""
        told = Told(book, free, low, high)
        for ratio in ratios:
            other = book.copied()
            other.put(free, ratio)
            for cell in cells:
                found, value = told.value_at(cell, ratio), other.value_of(cell)
                self.assertTrue(same(found, value), f"{cell} at {ratio}: {value_text(found)}, not {value_text(value)}")
