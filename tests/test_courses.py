"""[59] to [61], [66], [68], [129]: rings that are gone round for all numbers at the beginning."""

import random

from allinputs.courses import rounds_row
from allinputs.curves import Curve
from allinputs.errors import NotAName, NotTold, TooHigh, Unknown
from allinputs.going import Going
from allinputs.ratios import Ratio
from allinputs.told import Told, value_in_parts
from allinputs.values import same
from tests.books import book_of
from tests.helper import NO_INTEGERS, NO_RATIOS, ROOT, X
from tests.rows import RowCase, row_text

RING = {"A1": "=IF(A1<8,A1/2+3,A1)", "B1": "=A1*C1+D1", "C1": "2", "D1": "=B1-1", "E1": "=SUM(A1:D1)"}


class RoundsRow(RowCase):
    def rounds(self, cells, begin, free, cell, many, text, low=None, high=None):
        book = book_of(cells)
        parts = rounds_row(book, begin, free, cell, many, low, high)
        self.well_made(parts, None if low is None else Ratio(1) * low, None if high is None else Ratio(1) * high)
        self.assertEqual(row_text(parts), text)

    def test_behind_0_1_and_more_rounds(self):
        cells = {"A1": "=IF(A1<8,A1/2+3,A1)", "B1": "=A1*2"}
        self.rounds(cells, {}, "A1", "A1", 0, "(,): x")
        self.rounds(cells, {}, "A1", "B1", 0, "(,): 2x")
        self.rounds(cells, {}, "A1", "A1", 1, "(,8): (x + 6)/2 | 8: 8 | (8,): x")
        self.rounds(cells, {}, "A1", "B1", 1, "(,8): x + 6 | 8: 16 | (8,): 2x")
        self.rounds(cells, {}, "A1", "A1", 2, "(,8): (x + 18)/4 | 8: 8 | (8,): x")
        self.rounds(cells, {}, "A1", "A1", 20, "0: 3145725/524288 | (0,8): (x + 6291450)/1048576 | 8: 8",
                    low=0, high=8)
        self.rounds(cells, {}, "A1", "C9", 2, "(,): None")

    def test_a_free_cell_in_no_ring(self):
        cells = {"A1": "=A1+C1", "C1": "5", "D1": "=A1*C1"}
        self.rounds(cells, {"A1": 1}, "C1", "A1", 3, "(,): 3x + 1")
        self.rounds(cells, {"A1": 1}, "C1", "D1", 3, "(,): 3x^2 + x")
        self.rounds(cells, {"A1": 1}, "C1", "C1", 3, "(,): x")
        self.rounds(cells, {}, "Z1", "A1", 3, "(,): 15")
        # What the free cell holds does not matter, nor does what hangs on it alone.
        self.rounds({**cells, "C1": "=1/0&E1", "E1": "=C9&\"\""}, {}, "C1", "A1", 2, "(,): 2x")

    def test_rings_of_the_book_so_changed(self):
        cells = {"A1": "=B1+A1", "B1": "=A1", "C1": "=D1", "D1": "=C1+1"}
        self.rounds(cells, {"A1": 2}, "B1", "A1", 1, "(,): x + 2")
        book = book_of({"A1": "=B1+1", "B1": "=C1", "C1": "=A1"})
        # B1 is in a ring, so its number at the beginning is free, and it does not hold it.
        self.assertEqual(row_text(rounds_row(book, {}, "B1", "A1", 1)), "(,): x + 1")
        self.assertEqual(row_text(rounds_row(book, {}, "B1", "B1", 1)), "(,): 0")
        self.assertEqual(row_text(rounds_row(book, {}, "B1", "C1", 1)), "(,): x + 1")

    def test_other_begins(self):
        cells = {"A1": "=A2", "A2": "=A1+B1", "B1": "=B1*2"}
        self.rounds(cells, {"$A$2": 7, "sheet1!b1": Ratio(1, 2)}, "a1", "A2", 1, "(,): 8")
        self.rounds(cells, {"A2": 7, "B1": 1}, "A1", "A2", 1, "(,): 9")
        self.rounds(cells, {"A1": 7, "B1": 1}, "A2", "A2", 2, "(,): x + 6")
        self.rounds(cells, {"A1": 7}, "B1", "A2", 2, "(,): 6x")

    def test_points_and_turns(self):
        cells = {"A1": "=IF(A1*A1<2,A1+1,1/A1)"}
        self.rounds(cells, {}, "A1", "A1", 1, "(,~-1.414): 1/(x) | ~-1.414: ~-0.707 | (~-1.414,~1.414): x + 1"
                                              " | ~1.414: ~0.707 | (~1.414,): 1/(x)")
        row = rounds_row(book_of(cells), {}, "A1", "A1", 2, 0, 2)
        self.well_made(row, Ratio(0), Ratio(2))
        self.assertIn(ROOT, [part.point for part in row if hasattr(part, "point")])

    def test_agrees_with_going(self):
        chance = random.Random(3)
        book = book_of({**RING, "F1": "=IF(F1*F1>A1,F1-1,F1+B1)", "G1": "=MOD(G1+F1,3)", "H1": "=INDEX(A1:G1,1,2)", "I1": "=A1&\"\"",
                        "J1": "=IFERROR(1/G1,\"none\")", "K1": "=SEQUENCE(2)*A1"})
        for free in ("A1", "B1", "F1", "C1", "Z1"):
            for many in (0, 1, 2, 3):
                for cell in ("A1", "B1", "D1", "E1", "F1", "G1", "J1", "K2"):
                    begin = {place: 2 for place in ("A1", "F1") if place != free}
                    row = rounds_row(book, begin, free, cell, many, -4, 4)
                    for _ in range(4):
                        ratio = Ratio(chance.randint(-12, 12), 3)
                        other = book.copied()
                        if free in ("C1", "Z1"):
                            other.put(free, ratio)
                            going = Going(other, begin)
                        else:
                            going = Going(other, {**begin, free: ratio})
                        going.go(many)
                        self.assertTrue(same(value_in_parts(row, ratio), going.now_at(cell)), (free, many, cell, str(ratio)))

    def test_without_rings_it_is_a_told_row(self):
        book = book_of({"B1": "=IF(A1>0,1/A1,A1)"})
        for many in (0, 1, 20):
            self.assertEqual(rounds_row(book, {}, "A1", "B1", many, -1, 5), Told(book, "A1", -1, 5).pieces("B1"))

    def test_what_is_not_told(self):
        book = book_of({"A1": "=A1+1", "B1": "=B1&\"x\"", "C1": "=A1&\"\"", "D1": "=IF(FALSE,C1,D1)"})
        # B1 is a text behind the first round, and its number is told at the beginning.
        self.fails(NotTold, {}, rounds_row, book, {}, "B1", "A1", 1)
        self.fails(NotTold, {}, rounds_row, book, {}, "A1", "C1", 0)
        self.assertEqual(row_text(rounds_row(book, {}, "A1", "A1", 0)), "(,): x")
        # With at least one round all formulas in rings are taken in, and all on which they hang.
        self.fails(NotTold, {}, rounds_row, book, {}, "A1", "A1", 1)
        book.put("D1", "")
        self.assertEqual(row_text(rounds_row(book, {}, "A1", "A1", 1)), "(,): x + 1")
        self.fails(TooHigh, {"most": 60}, rounds_row, book_of({"A1": "=A1*A1"}), {}, "A1", "A1", 6)
        self.assertEqual(rounds_row(book_of({"A1": "=A1*A1"}), {}, "A1", "A1", 5)[0].value, Curve(X).power(32))
        high = book_of({"A1": "=A1", "B1": "=B1+C1", "C1": "=(9^64)^60"})
        self.fails(TooHigh, {"most": 3000}, rounds_row, high, {}, "A1", "A1", 1)
        self.assertEqual(row_text(rounds_row(high, {}, "A1", "A1", 0)), "(,): x")

    def test_errors_in_their_order(self):
        book = book_of({"A1": "=A1+1", "B1": "5"})
        for value in (None, 1, "A1"):
            self.bad(value, rounds_row, value, None, "A1", "A1", 1)
        for value in (None, [], {"A1": "1"}, {1: 1}, {"A1": True}, {"A1": 1.5}):
            self.bad(value, rounds_row, book, value, None, "A1", 1)
        for value in (None, 1, True):
            self.bad(value, rounds_row, book, {"?": 1}, value, None, 1)
            self.bad(value, rounds_row, book, {"?": 1}, "?", value, -1)
        for value in NO_INTEGERS + (-1, 21):
            self.bad(value, rounds_row, book, {"?": 1}, "?", "?", value, 1, 1)
        for value in NO_RATIOS:
            self.bad(value, rounds_row, book, {"?": 1}, "?", "?", 1, value, 1)
            self.bad(value, rounds_row, book, {"?": 1}, "?", "?", 1, 1, value)
        self.bad(0, rounds_row, book, {"?": 1}, "?", "?", 1, 0, 0)
        self.fails(NotAName, {"name": "?"}, rounds_row, book, {"Z1": 1}, "?", "!", 1)
        self.fails(Unknown, {"name": "Tax"}, rounds_row, book, {"Z1": 1}, "A1", "Tax!A1", 1)
        for begin in ({"Z1": 1}, {"B1": 1}, {"?": 1}, {"Tax!A1": 1}, {"A1": 1, "a1": 1}):
            self.bad(begin, rounds_row, book, begin, "B1", "A1", 1)
        for begin in ({"A1": 1}, {"$A1": 1}):
            self.bad(begin, rounds_row, book, begin, "A1", "A1", 1)
        wide = book_of({"A1": "=A1*{1,2}", "C1": "=C1"})
        begin = {"Z1": 1}
        self.bad(begin, rounds_row, wide, begin, "A1", "A1", 1)
        self.fails(NotTold, {}, rounds_row, wide, {}, "C1", "C1", 0)
        # A1 sees a cell that holds nothing in its own reach, until the free cell holds a number there.
        wide = book_of({"A1": "=B1*{1,2}", "C1": "=C1"})
        self.fails(NotTold, {}, rounds_row, wide, {}, "C1", "C1", 0)
        self.assertEqual(row_text(rounds_row(wide, {}, "B1", "A1", 0)), "(,): #SPILL")
        told = rounds_row(many=1, cell="A1", free="A1", begin={}, book=book, high=2, low=0)
        self.assertEqual(row_text(told), "0: 1 | (0,2): x + 1 | 2: 3")
