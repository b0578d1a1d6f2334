"""Promises: what holds for a cell whenever a free cell holds a number of a range."""

from allinputs.alike import place_apart
from allinputs.book import cell_at, check_book, place_of
from allinputs.checks import check_string
from allinputs.errors import BadPromise, NotAName, Unknown
from allinputs.numerals import number_text, read_number, wrong_place
from allinputs.told import Told
from allinputs.values import MOST_CHARACTERS
from allinputs.verdicts import Bounded, NoFault, Verdict, place_outside, reaches_ratio, verdict_of_place

MOST_PROMISE = 400

# The words of the claims, "#" for a number and "@" for a place.
_CLAIMS = (
    ("never", "fails"), ("from", "#", "to", "#"), ("at", "least", "#"), ("at", "most", "#"), ("reaches", "#"),
    ("same", "as", "@"),
)

_RANGE = ("from", "#", "to", "#")


class Vow:
    """A promise that was read.

    claim is the tuple of the words of its claim, numbers has the Ratios of it, ends those of its range, if it has one.
    places are the cell, the free cell, and maybe the one that has to be the same, told as cells.
    """

    def __init__(self, claim, numbers, places, ends):
        self.claim = claim
        self.numbers = numbers
        self.places = places
        self.ends = ends


class Judge:
    """What holds in a Book; each free cell and range is looked at once."""

    def __init__(self, book):
        self.book = book
        self.known = {}

    def verdict_on(self, vow):
        """The Verdict on a Vow."""
        told = self._told_for(vow)
        parts = told.parts_of(vow.places[0])
        if vow.claim[0] == "same":
            return verdict_of_place(place_apart(parts, told.parts_of(vow.places[2])))
        if vow.claim[0] == "reaches":
            return Verdict(reaches_ratio(parts, vow.numbers[0]), None)
        return verdict_of_place(place_outside(parts, _claim_of(vow)))

    def _told_for(self, vow):
        """The Told for the free cell and the range of a Vow."""
        key = vow.places[1], tuple([(end.top, end.bottom) for end in vow.ends])
        if key not in self.known:
            low, high = vow.ends if vow.ends else (None, None)
            self.known[key] = Told(self.book, place_of(self.book, vow.places[1]), low, high)
        return self.known[key]


def promise_text(book, promise):
    """The plain text of a promise."""
    return vow_text(book, asked_vow(book, promise))


def holds(book, promise):
    """Whether a promise holds."""
    vow = asked_vow(book, promise)
    return Judge(book).verdict_on(vow).is_kept


def broken_at(book, promise):
    """Where a promise is broken; None if it holds, and for "reaches"."""
    vow = asked_vow(book, promise)
    return Judge(book).verdict_on(vow).where


def asked_vow(book, promise):
    """The Vow that a string is for a Book, if both are what they should be."""
    check_book(book)
    check_string(promise)
    vow = _read_vow(book, promise)
    if vow is None or (len(promise) > MOST_PROMISE and promise != vow_text(book, vow)):
        raise BadPromise(promise)
    return vow


def with_places(vow, places):
    """A Vow with other cells."""
    return Vow(vow.claim, vow.numbers, places, vow.ends)


def vow_text(book, vow):
    """The plain text of a Vow."""
    texts = [place_of(book, cell) for cell in vow.places]
    words = texts[:1] + _filled(vow.claim, vow.numbers, texts[2:]) + ["for", texts[1]]
    return " ".join(words + (_filled(_RANGE, vow.ends, []) if vow.ends else []))


def _claim_of(vow):
    """What a Vow claims of each value."""
    if vow.claim[0] == "never":
        return NoFault()
    if vow.claim[0] == "from":
        return Bounded(vow.numbers[0], vow.numbers[1])
    if vow.claim[1] == "least":
        return Bounded(vow.numbers[0], None)
    return Bounded(None, vow.numbers[0])


def _filled(words, numbers, places):
    """The list of words, with the texts of numbers, and places, where these belong."""
    left = list(numbers)
    told = []
    for word in words:
        if word == "#":
            told.append(number_text(left[0]))
            left = left[1:]
        else:
            told.append(places[0] if word == "@" else word)
    return told


def _read_vow(book, promise):
    """The Vow that a string is, None if it is no promise."""
    words = promise.split(" ")
    cell, claim = _cell_of(book, words[0]), _claim_in(words[1:])
    if cell is None or claim is None:
        return None
    told, rest = words[1:1 + len(claim)], words[1 + len(claim):]
    numbers = [_number_of(word) for word, sort in zip(told, claim) if sort == "#"]
    places = [_cell_of(book, word) for word, sort in zip(told, claim) if sort == "@"]
    if len(rest) < 2 or rest[0] != "for":
        return None
    free, ends = _cell_of(book, rest[1]), _ends_in(rest[2:])
    if free is None or ends is None or any([thing is None for thing in numbers + places]):
        return None
    return Vow(claim, numbers, [cell, free] + places, ends)


def _claim_in(words):
    """The claim with whose words some begin, None if there is none."""
    for claim in _CLAIMS:
        if _are_like(words[:len(claim)], claim):
            return claim
    return None


def _ends_in(words):
    """The list of the Ratios of a range, () for none; None if the words tell no range that goes up."""
    if not words:
        return ()
    if not _are_like(words, _RANGE):
        return None
    low, high = _number_of(words[1]), _number_of(words[3])
    if low is None or high is None or high.compare(low) <= 0:
        return None
    return low, high


def _are_like(words, sorts):
    """Whether words are those of a claim or a range, whatever stands for a number or a place."""
    if len(words) != len(sorts):
        return False
    return all([sort in ("#", "@") or word == sort for word, sort in zip(words, sorts)])


def _number_of(word):
    """The Ratio that can be read from a word, None if none can."""
    if len(word) > MOST_CHARACTERS or wrong_place(word) is not None:
        return None
    return read_number(word)


def _cell_of(book, word):
    """The cell at a place, None if a word is no place of a Book."""
    try:
        return cell_at(book, word)
    except (NotAName, Unknown):
        return None
