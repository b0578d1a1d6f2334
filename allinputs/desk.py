"""The desk: a book, promises that are kept for all inputs, and what can be taken back."""

from allinputs.alike import cell_held
from allinputs.book import Book, check_book, mesh_of, place_of, places_of, sheet_at
from allinputs.checks import check_list, check_string
from allinputs.deeds import check_deed, do_deed, does_follow
from allinputs.errors import Broken, NothingToRedo, NothingToUndo, NotMade, NotTold, Taken, TooHigh
from allinputs.holdings import unlike
from allinputs.points import check_ends
from allinputs.promises import Judge, asked_vow, vow_text, with_places
from allinputs.states import touched
from allinputs.told import Told
from allinputs.verdicts import Verdict


class Moment:
    """What a desk holds at one moment: a Book and the list of the Vows that it keeps. It does not change."""

    def __init__(self, book, vows):
        self.book = book
        self.vows = vows

    def plain_texts(self):
        """The list of the plain texts of the Vows."""
        return [vow_text(self.book, vow) for vow in self.vows]


class Judging:
    """The verdicts on the Vows of a Moment behind deeds; those that the deeds do not touch still hold."""

    def __init__(self, before, after):
        self.before = before
        self.after = after
        self.judge = Judge(after.book)
        self.touched = None
        self.meshes = ()
        if before.vows and before.book.held.tabs == after.book.held.tabs:
            one, other = before.book.held, after.book.held
            self.meshes = (mesh_of(before.book), mesh_of(after.book))
            self.touched = {cell: True for cell in unlike(one.texts, other.texts) + list(touched(one, other))}

    def verdict_at(self, at):
        """The Verdict on the Vow with a number."""
        old, vow = self.before.vows[at], self.after.vows[at]
        if vow is None:
            return Verdict(False, None)
        # The free cell is the second one: what it holds does not matter.
        if self.touched is not None and old.places == vow.places:
            if not any([self._is_touched(cell) for cell in vow.places[:1] + vow.places[2:]]):
                return Verdict(True, None)
        return self.judge.verdict_on(vow)

    def _is_touched(self, cell):
        """Whether the value of a cell, whatever the free cell holds, may be another one than ahead of the deeds."""
        if cell in self.touched:
            return True
        return any([other in self.touched for mesh in self.meshes for other in mesh.reaching(cell)])


class Desk:
    """A Book at which deeds are done, as long as they break no promise."""

    def __init__(self, book):
        check_book(book)
        # All moments that can be come back to, and the number of the one that is now.
        self.moments = [Moment(book.copied(), [])]
        self.at = 0

    def current(self):
        """A Book that is equal to the one that the desk holds now."""
        return self._now().book.copied()

    def promises(self):
        """The tuple of the plain texts of the promises that are kept."""
        return tuple(self._now().plain_texts())

    def do(self, deed):
        """Does a deed, if no promise is broken by it."""
        check_deed(deed)
        self._do_all([deed])

    def attempt(self, deeds):
        """Does deeds one after another, as one."""
        _check_deeds(deeds)
        if deeds:
            self._do_all(deeds)

    def trial(self, deeds):
        """The list of the pairs of the promises that deeds would break and of where they would be broken."""
        _check_deeds(deeds)
        if not deeds:
            return []
        now = self._now()
        behind = _moment_behind(now, deeds)
        judging = Judging(now, behind)
        told = []
        for at, text in enumerate(now.plain_texts()):
            verdict = judging.verdict_at(at)
            if not verdict.is_kept:
                told.append((text, verdict.where))
        return told

    def keep(self, promise):
        """Makes a promise."""
        check_string(promise)
        now = self._now()
        vow = asked_vow(now.book, promise)
        text = vow_text(now.book, vow)
        if text in now.plain_texts():
            raise Taken(text)
        verdict = Judge(now.book).verdict_on(vow)
        if not verdict.is_kept:
            raise Broken(text, verdict.where)
        self._go_on(Moment(now.book, now.vows + [vow]))

    def release(self, promise):
        """Lets go a promise that is kept."""
        check_string(promise)
        now = self._now()
        text = vow_text(now.book, asked_vow(now.book, promise))
        texts = now.plain_texts()
        if text not in texts:
            raise NotMade(text)
        self._go_on(Moment(now.book, [vow for vow, other in zip(now.vows, texts) if other != text]))

    def undo(self):
        """Takes back the last deed, attempt, or promise that was made or released."""
        if self.at == 0:
            raise NothingToUndo()
        self.at = self.at - 1

    def redo(self):
        """Does again what was taken back last."""
        if self.at == len(self.moments) - 1:
            raise NothingToRedo()
        self.at = self.at + 1

    def changed_by(self, deeds, place, low=None, high=None):
        """The tuple of the places whose told rows would be changed by deeds."""
        _check_deeds(deeds)
        check_string(place)
        check_ends(low, high)
        now = self._now()
        before = Told(now.book, place, low, high)
        book = _book_behind(now.book, deeds)
        behind = Told(book, place, low, high)
        found = []
        for cell in sorted(list(now.book.held.contents)):
            peer = cell_held(book, place_of(now.book, cell), None)
            if peer is not None and _are_told_unlike(before, behind, cell, peer):
                found.append(cell)
        return places_of(now.book, found)

    def _now(self):
        """The moment that is now."""
        return self.moments[self.at]

    def _go_on(self, moment):
        """Another moment comes; what was taken back cannot be done again."""
        self.moments = self.moments[:self.at + 1] + [moment]
        self.at = self.at + 1

    def _do_all(self, deeds):
        """Does deeds one after another, if no promise is broken behind the last one."""
        now = self._now()
        behind = _moment_behind(now, deeds)
        texts = now.plain_texts()
        for text, vow in zip(texts, behind.vows):
            if vow is None:
                raise Broken(text, None)
        judging = Judging(now, behind)
        for at, text in enumerate(texts):
            verdict = judging.verdict_at(at)
            if not verdict.is_kept:
                raise Broken(text, verdict.where)
        self._go_on(behind)


def _check_deeds(deeds):
    """A list of deeds."""
    check_list(deeds)
    for deed in deeds:
        check_deed(deed)


def _book_behind(book, deeds):
    """A Book behind deeds that are done in a copy of one."""
    told = book.copied()
    for deed in deeds:
        do_deed(told, deed)
    return told


def _moment_behind(moment, deeds):
    """The Moment behind deeds; None stands for the Vows of which a place became REF."""
    book = _book_behind(moment.book, deeds)
    followed = _places_behind(moment, deeds)
    vows = []
    for at, vow in enumerate(moment.vows):
        cells = [_cell_behind(book, followed[_name_of(at, number)]) for number in range(len(vow.places))]
        vows.append(None if any([cell is None for cell in cells]) else with_places(vow, cells))
    return Moment(book, vows)


def _places_behind(moment, deeds):
    """The dict from names, for the places of all Vows, to their formulas behind deeds.

    The places follow as references in the formulas of names do, so they are names of a book without cells.
    """
    tabs = moment.book.held.tabs
    shadow = Book()
    shadow.rename_sheet("Sheet1", tabs[0])
    for tab in tabs[1:]:
        shadow.add_sheet(tab)
    for at, vow in enumerate(moment.vows):
        for number, cell in enumerate(vow.places):
            shadow.define(_name_of(at, number), place_of(moment.book, cell))
    for deed in deeds:
        if does_follow(deed):
            do_deed(shadow, deed)
    return shadow.held.named


def _name_of(at, number):
    """The name for a place of a Vow, told by their numbers."""
    return f"place_{at}_{number}"


def _cell_behind(book, formula):
    """The cell of a reference, None for the fault REF."""
    if formula[0] == "fault":
        return None
    return sheet_at(book, formula[1].sheet), formula[1].row, formula[1].column


def _are_told_unlike(one, other, cell, peer):
    """Whether two cells are told and do not have equal told rows."""
    try:
        return one.parts_of(cell) != other.parts_of(peer)
    except (NotTold, TooHigh):
        return False
