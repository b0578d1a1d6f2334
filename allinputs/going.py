"""Rings that are gone round, from told numbers."""

from allinputs.book import cell_at, check_book, mesh_of
from allinputs.checks import check_range, check_string
from allinputs.errors import BadValue, TooHigh
from allinputs.rounds import Rounds, begin_of, check_gone_round, is_begin, placed_formulas
from allinputs.values import Fault

MOST_ROUNDS = 1000


class Going:
    """A Book whose rings are gone round; begin is a dict from places of cells in rings to their first numbers."""

    def __init__(self, book, begin):
        check_book(book)
        mesh = mesh_of(book)
        placed = placed_formulas(mesh)
        told = begin_of(book, begin) if is_begin(begin) else None
        if told is None or any([cell not in placed for cell in told]):
            raise BadValue(begin)
        check_gone_round(mesh, placed)
        self.book = book.copied()
        self.placed = placed
        self.begin = told
        self.moment = self._first_moment()
        self.many = 0
        self.is_at_rest = False

    def go(self, many):
        """Goes many rounds more; nothing changes if a number with too many digits comes out."""
        check_range(many, 0, MOST_ROUNDS)
        values = self.moment.ringed_values()
        is_at_rest = self.is_at_rest
        try:
            for _ in range(many):
                is_at_rest = not self.moment.go_round()
        except TooHigh:
            self.moment.set_values(values)
            raise
        self.many = self.many + many
        self.is_at_rest = is_at_rest

    def rounds(self):
        """How many rounds there were."""
        return self.many

    def now_at(self, place):
        """The value that a cell has now."""
        check_string(place)
        return self.moment.value_at(cell_at(self.book, place))

    def is_still(self):
        """Whether the last round changed nothing."""
        return self.is_at_rest

    def course(self, place, many):
        """The list of the values of a cell behind 0, 1 and so on rounds from the beginning."""
        check_string(place)
        check_range(many, 0, MOST_ROUNDS)
        cell = cell_at(self.book, place)
        moment = self._first_moment()
        values = [moment.value_at(cell)]
        for _ in range(many):
            moment.go_round()
            values.append(moment.value_at(cell))
        return values

    def returns(self, many):
        """The pair of the first moment that comes again within so many rounds, and how many rounds later; or None."""
        check_range(many, 0, MOST_ROUNDS)
        moment = self._first_moment()
        seen = {_key_of(moment.ringed_values()): 0}
        for number in range(1, many + 1):
            moment.go_round()
            key = _key_of(moment.ringed_values())
            if key in seen:
                return seen[key], number - seen[key]
            seen[key] = number
        return None

    def _first_moment(self):
        """The values at the beginning."""
        return Rounds(self.book.held, self.placed, self.begin)


def _key_of(values):
    """A key that the same values share: Ratios, texts, truths and faults."""
    key = []
    for value in values:
        if isinstance(value, (bool, str)):
            key.append(("plain", value, isinstance(value, bool)))
        elif isinstance(value, Fault):
            key.append(("fault", value.kind, False))
        else:
            key.append(("number", value.top, value.bottom))
    return tuple(key)
