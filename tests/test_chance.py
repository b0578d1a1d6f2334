"""[58], [66] to [68], [80], [81], [121]: books made by chance, all inputs held against single ones."""

import random

from allinputs.book import Book
from allinputs.courses import rounds_row
from allinputs.deeds import do_deed
from allinputs.desk import Desk
from allinputs.errors import Broken, NotTold, SheetError, Taken, TooHigh
from allinputs.exchange import content_text
from allinputs.going import Going
from allinputs.promises import broken_at, holds
from allinputs.ratios import Ratio
from allinputs.rests import is_single, rests, values_at_rest
from allinputs.rowparts import Edge, Piece
from allinputs.spans import Span
from allinputs.told import Told, value_in_parts
from allinputs.values import same
from allinputs.webs import rings
from tests.rows import RowCase

CELLS = [f"{column}{row}" for column in "ABC" for row in range(1, 5)]
CALLS = (
    "SUM({a},{e})", "MAX({e},{e})", "MIN({a})", "ABS({e})", "SIGN({e})", "MOD({e},3)", "IFERROR({e},{e})", "MEDIAN({a})",
    "COUNT({a},{e})", "ROUND({e},0)", "SEQUENCE(2,{e})", "SEQUENCE(3,1,{e})", "SORT({a})", "FILTER({a},{a}>{e})", "UNIQUE({a})",
    "INDEX({a},{e})", "MATCH({e},A1:A4,0)", "XLOOKUP({e},A1:A4,B1:B4,{e},-1)", "COUNTIF({a},\">1\")", "LARGE({a},2)",
    "CHOOSE({e},{e},{e})", "SUMPRODUCT({a},{a})", "IF({e}<{e},{e},{e})", "IF({e}={e},{e},{e})", "{e}>{e}", "TEXT({e},\"0.0\")",
)


class Maker:
    """Formulas and books by chance, always the same ones."""

    def __init__(self, seed):
        self.chance = random.Random(seed)

    def area(self):
        return self.chance.choice(CELLS) + ":" + self.chance.choice(CELLS)

    def formula(self, depth):
        pick = self.chance.random()
        if depth == 0 or pick < 0.25:
            return self.chance.choice([self.chance.choice(CELLS), self.chance.choice(CELLS), "0", "1", "2", "-1", "0.5",
                                       self.chance.choice(CELLS) + "#"])
        if pick < 0.55:
            return f"({self.formula(depth - 1)}{self.chance.choice('+-*/')}{self.formula(depth - 1)})"
        text = self.chance.choice(CALLS).replace("{a}", self.area())
        while "{e}" in text:
            text = text.replace("{e}", self.formula(depth - 1), 1)
        return text

    def book(self, share):
        book = Book()
        for cell in CELLS:
            pick = self.chance.random()
            if pick < share:
                book.put(cell, "=" + self.formula(2))
            elif pick < share + 0.2:
                book.put(cell, self.chance.choice(["1", "2", "-3", "0.5", "'x", "TRUE"]))
        return book

    def ratios(self, many):
        return [Ratio(self.chance.randint(-20, 20), self.chance.choice([1, 2, 3])) for _ in range(many)]


class Chance(RowCase):
    def test_told_rows_against_books(self):
        maker = Maker(1)
        told_cells = 0
        for _ in range(60):
            book = maker.book(0.45)
            free = maker.chance.choice(CELLS)
            low, high = maker.chance.choice([(None, None), (0, 5), (Ratio(-3), None), (None, Ratio(7, 2))])
            told = Told(book, free, low, high)
            ratios = [ratio for ratio in maker.ratios(8) + [told.low, told.high] if ratio is not None]
            ratios = [ratio for ratio in ratios if (low is None or ratio.compare(low) >= 0) and (
                high is None or ratio.compare(high) <= 0)]
            others = []
            for ratio in ratios:
                others.append(book.copied())
                others[-1].put(free, ratio)
            for cell in CELLS + ["D1", "A7"]:
                try:
                    parts = told.pieces(cell)
                except (NotTold, TooHigh):
                    continue
                told_cells += 1
                self.well_made(parts, told.low, told.high)
                for ratio, other in zip(ratios, others):
                    self.assertTrue(same(told.value_at(cell, ratio), other.value_of(cell)), (cell, str(ratio)))
                for part in parts:
                    if isinstance(part, Piece) or isinstance(part.point, Ratio):
                        ratio = part.point if isinstance(part, Edge) else part.span.inner()
                        other = book.copied()
                        other.put(free, ratio)
                        self.assertTrue(same(value_in_parts(parts, ratio), other.value_of(cell)), (cell, str(ratio)))
        self.assertGreater(told_cells, 700)

    def round_of(self, book, ringed, values):
        """The values of the cells in rings behind one round, each formula worked in a cell far away."""
        values = dict(values)
        for cell in ringed:
            other = book.copied()
            for place, value in values.items():
                other.put(place, content_text(value))
            other.define("there", book.text_of(cell)[1:])
            other.put("Z90", "=there")
            values[cell] = other.value_of("Z90")
        return values

    def test_rounds_against_books(self):
        maker = Maker(2)
        gone = 0
        for _ in range(150):
            book = maker.book(0.45)
            ringed = sorted([place for ring in rings(book) for place in ring], key=lambda place: (int(place[8:]), place[7]))
            begin = {place: number for place, number in zip(ringed, maker.ratios(len(ringed)))}
            try:
                going = Going(book, begin)
            except NotTold:
                continue
            if not ringed:
                continue
            gone += 1
            values = begin
            try:
                for _ in range(3):
                    fresh = self.round_of(book, ringed, values)
                    going.go(1)
                    for place in ringed:
                        self.assertTrue(same(going.now_at(place), fresh[place]), place)
                    self.assertEqual(going.is_still(), all(same(fresh[place], values[place]) for place in ringed))
                    values = fresh
            except TooHigh:
                continue
            free, cell = maker.chance.choice(ringed), maker.chance.choice(CELLS)
            rest = {place: number for place, number in begin.items() if place != free}
            try:
                row = rounds_row(book, rest, free, cell, 2)
            except (NotTold, TooHigh):
                continue
            for ratio in maker.ratios(4):
                other = Going(book, {**rest, free: ratio})
                try:
                    other.go(2)
                    self.assertTrue(same(value_in_parts(row, ratio), other.now_at(cell)))
                except TooHigh:
                    pass
        self.assertGreater(gone, 15)

    def test_rests_against_books(self):
        maker = Maker(3)
        many = 0
        for _ in range(120):
            book = maker.book(0.4)
            for place in [place for ring in rings(book) for place in ring]:
                if not is_single(book, place):
                    continue
                try:
                    found = rests(book, place)
                except (NotTold, TooHigh):
                    continue
                many += 1
                tries = maker.ratios(3) + [one.inner() if isinstance(one, Span) else one for one in found]
                for ratio in tries:
                    if isinstance(ratio, Ratio):
                        is_rest = any(one.has(ratio) if isinstance(one, Span) else one == ratio for one in found)
                        try:
                            told = values_at_rest(book, place, ratio)
                        except TooHigh:
                            continue
                        except SheetError:
                            self.assertFalse(is_rest)
                            continue
                        self.assertTrue(is_rest)
                        other = book.copied()
                        other.put(place, ratio)
                        for peer, value in told.items():
                            self.assertTrue(same(other.value_of(peer), value))
        self.assertGreater(many, 30)

    def promise(self, maker):
        low, high = maker.chance.randint(-5, 1), maker.chance.randint(-1, 9)
        claim = maker.chance.choice(["never fails", f"from {low} to {high}", f"at least {low}", f"at most {high}", f"reaches {low}",
                                     f"same as {maker.chance.choice(CELLS)}"])
        ends = maker.chance.choice(["", " from 0 to 5", " from -1/2 to 10"])
        return f"{maker.chance.choice(CELLS)} {claim} for {maker.chance.choice(CELLS)}{ends}"

    def test_desks_against_promises(self):
        maker = Maker(4)
        many = 0
        for _ in range(25):
            book = maker.book(0.4)
            desk = Desk(book)
            for _ in range(25):
                promise = self.promise(maker)
                try:
                    desk.keep(promise)
                    self.assertTrue(holds(book, promise))
                except Broken as error:
                    self.assertFalse(holds(book, promise))
                    self.assertEqual(error.where, broken_at(book, promise))
                except (Taken, NotTold, TooHigh):
                    pass
            for _ in range(6):
                cell = maker.chance.choice(CELLS)
                deed = maker.chance.choice([
                    ("put", cell, maker.chance.choice(["", "1", "-2", "=1/0", "=" + maker.formula(2), "=" + maker.formula(1)])),
                    ("copy_cells", maker.area(), cell), ("put_rows", cell, [["1", "=A1"], ["", "x"]]), ("sort_rows", "A1:C4", [(1, True)]),
                ])
                other = desk.current()
                do_deed(other, deed)
                try:
                    broken = [promise for promise in desk.promises() if not holds(other, promise)]
                    self.assertEqual([pair[0] for pair in desk.trial([deed])], broken)
                    many += len(broken)
                    if not broken:
                        desk.do(deed)
                        self.assertTrue(desk.current() == other)
                except (NotTold, TooHigh):
                    continue
        self.assertGreater(many, 20)
