"""Rows of values that are the same but for capitals."""

from allinputs.ordering import small_letters
from allinputs.ratios import Ratio
from allinputs.values import Fault, is_number, same


class AlikeRows:
    """Tuples of values, each of those that are alike once; they have places in the order in which they came."""

    def __init__(self):
        self.rows = []
        # The places of rows by keys that alike ones share, and those of the rows that have no such key.
        self.places = {}
        self.special = []

    def place_of(self, row):
        """The place of a row, or of one that is alike to it; None if there is none."""
        key = _key_of(row)
        if key is None:
            return self._first_alike(row)
        if key in self.places:
            return self.places[key]
        for place in self.special:
            if _are_alike(row, self.rows[place]):
                return place
        return None

    def _first_alike(self, row):
        """The place of the first of all rows that is alike to one; None if there is none."""
        for place, peer in enumerate(self.rows):
            if _are_alike(row, peer):
                return place
        return None

    def take(self, row):
        """The place of a row, or of one that is alike to it, which may be a new one."""
        place = self.place_of(row)
        if place is not None:
            return place
        key = _key_of(row)
        if key is None:
            self.special.append(len(self.rows))
        else:
            self.places[key] = len(self.rows)
        self.rows.append(row)
        return len(self.rows) - 1


def alike(one, other):
    """Whether two values are the same but for capitals."""
    if isinstance(one, str) and isinstance(other, str):
        return small_letters(one) == small_letters(other)
    return same(one, other)


def first_alike_rows(rows):
    """The list of the rows, tuples of values, without those that are alike to an earlier one."""
    found = AlikeRows()
    for row in rows:
        found.take(row)
    return found.rows


def _key_of(row):
    """A key that alike rows share, None for a row with a number that is no told ratio."""
    key = []
    for value in row:
        if isinstance(value, Ratio):
            key.append(("number", value.top, value.bottom))
        elif isinstance(value, str):
            key.append(("text", small_letters(value)))
        elif isinstance(value, Fault):
            key.append(("fault", value.kind))
        elif is_number(value):
            return None
        else:
            key.append(("truth", "none" if value is None else str(value)))
    return tuple(key)


def _are_alike(row, peer):
    """Whether two rows are alike; of their values no more are asked than needed."""
    for one, other in zip(row, peer):
        if not alike(one, other):
            return False
    return True
