"""What the cells of a book are while one of them holds any number of a range."""

from allinputs.book import cell_at, check_book, place_of, state_of
from allinputs.checks import check_string
from allinputs.curves import Curve
from allinputs.errors import BadValue
from allinputs.holdings import held_with
from allinputs.marks import Ruler, is_between
from allinputs.points import check_ends
from allinputs.ratios import Ratio, as_ratio
from allinputs.rowparts import Edge
from allinputs.rows import told_parts, x_row
from allinputs.tracks import Tracks


class Told:
    """The told rows of the cells of a Book whose free cell holds any number of a range."""

    def __init__(self, book, place, low=None, high=None):
        check_book(book)
        check_string(place)
        check_ends(low, high)
        self.free = cell_at(book, place)
        self.place = place_of(book, self.free)
        self.low = None if low is None else as_ratio(low)
        self.high = None if high is None else as_ratio(high)
        self.book = book.copied()
        self.ruler = Ruler(low, high)
        state = state_of(book)
        mesh = held_with(book.held, {self.free: Ratio(0)}).mesh_by(book.held)
        self.tracks = Tracks(state, mesh, self.ruler, [self.free], {})
        self.tracks.hold(self.free, x_row(self.ruler))
        # The told rows that were asked for.
        self.parts = {}

    def pieces(self, cell):
        """The told row of a cell: the tuple of its Pieces and Edges by turns."""
        check_string(cell)
        return self.parts_of(cell_at(self.book, cell))

    def value_at(self, cell, ratio):
        """The value of a cell at a ratio of the range."""
        check_string(cell)
        self.check_ratio(ratio)
        return value_in_parts(self.parts_of(cell_at(self.book, cell)), as_ratio(ratio))

    def parts_of(self, cell):
        """The told row of a cell, told by its sheet, row and column."""
        if cell not in self.parts:
            self.parts[cell] = told_parts(self.ruler, self.tracks.value_row(cell))
        return self.parts[cell]

    def check_ratio(self, ratio):
        """A ratio of the range."""
        if not is_between(ratio, self.low, self.high):
            raise BadValue(ratio)


def check_told(value):
    """A Told."""
    if not isinstance(value, Told):
        raise BadValue(value)


def value_in_parts(parts, ratio):
    """The value that a told row tells at a Ratio."""
    for part in parts:
        if isinstance(part, Edge):
            if part.point.compare(ratio) == 0:
                return part.value
        elif part.span.has(ratio):
            return part.value.worth_at(ratio) if isinstance(part.value, Curve) else part.value
    return None
