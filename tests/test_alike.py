"""[14], [60], [63], [126]: whether cells are alike for all inputs."""

from allinputs.alike import alike_places, parts_from
from allinputs.errors import NotAName, NotTold, TooHigh, Unknown
from allinputs.points import Point
from allinputs.ratios import Ratio
from allinputs.told import Told
from allinputs.values import same
from tests.books import book_of
from tests.helper import ROOT, X
from tests.rows import RowCase, place_text, told_of

CELLS = {
    "B1": "=A1*A1-1", "B2": "=(A1-1)*(A1+1)", "B3": "=IF(A1<0,A1*A1-1,A1*A1+1)", "B4": "=IF(A1=3,8,A1*A1-1)",
    "B5": "=IF(A1=3,9,A1*A1-1)", "B6": "=IF(A1*A1=2,0,A1*A1-1)", "B7": "=IF(A1>0,\"a\",\"b\")", "B8": "=IF(A1>0,\"A\",\"b\")",
    "B9": "=A1&1", "C1": "=IF(A1=1,TRUE,A1)", "C2": "=IF(A1=1,1,A1)", "C3": "=1/(A1*A1-2)", "C4": "=IF(A1*A1=2,NA(),C3)",
    "C5": "=-1", "C6": "=A1^61",
}


class PartsFrom(RowCase):
    def apart(self, told, cell, peer):
        """Where two cells are not the same; it is checked that they are not."""
        where = parts_from(told, told, cell, peer)
        if isinstance(where, Ratio):
            self.assertFalse(same(told.value_at(cell, where), told.value_at(peer, where)))
            return "ratio"
        return None if where is None else place_text(where)

    def test_alike_cells(self):
        told = told_of(CELLS)
        for cell, peer in (("B1", "B2"), ("B1", "B4"), ("C2", "A1"), ("D1", "D2")):
            self.assertIsNone(self.apart(told, cell, peer), cell + peer)
        self.assertIsNone(parts_from(told, told_of({"Z1": "=(A1+1)*(A1-1)"}), "B1", "Z1"))

    def test_a_ratio_at_which_they_differ(self):
        told = told_of(CELLS)
        for cell, peer in (("B1", "B3"), ("B3", "B1"), ("B7", "B8"), ("B1", "A1"), ("C1", "A1"), ("B1", "C5"), ("C5", "B1"),
                           ("B1", "D1"), ("B7", "B1")):
            self.assertEqual(self.apart(told, cell, peer), "ratio", cell + peer)
        self.assertEqual(parts_from(told, told, "B1", "B5"), Ratio(3))
        self.assertEqual(parts_from(told, told, "C1", "C2"), Ratio(1))

    def test_a_ratio_even_behind_a_point(self):
        told = told_of({"B1": "=IF(A1*A1=2,1,0)", "B2": "=IF(A1=5,1,0)", "B3": "=IF(A1*A1=2,1,IF(A1=5,2,0))", "B4": "=0"})
        self.assertEqual(parts_from(told, told, "B1", "B2"), Ratio(5))
        self.assertEqual(parts_from(told, told, "B1", "B3"), Ratio(5))
        self.assertEqual(parts_from(told, told, "B4", "B3"), Ratio(5))
        self.assertEqual(parts_from(told, told, "B4", "B1"), Point(X * X - 2, -2, -1))

    def test_the_least_point_where_no_ratio_does(self):
        told = told_of(CELLS)
        self.assertEqual(parts_from(told, told, "B1", "B6"), Point(X * X - 2, -2, -1))
        self.assertEqual(parts_from(told, told, "C3", "C4"), Point(X * X - 2, -2, -1))
        told = told_of(CELLS, low=0)
        self.assertEqual(parts_from(told, told, "B6", "B1"), ROOT)

    def test_curves_that_are_equal_at_the_ratio_looked_at_first(self):
        told = told_of({"B1": "=A1", "B2": "=A1*A1*(A1-1)", "B3": "=A1*(A1-1)*(A1+1)*(A1-2)", "B4": "=0"})
        for low, high in ((None, None), (0, 2), (-2, 2), (0, None)):
            other = Told(told.book, "A1", low, high)
            for cell in ("B1", "B2", "B3"):
                for peer in ("B1", "B2", "B3", "B4"):
                    if cell != peer:
                        self.assertEqual(self.apart(other, cell, peer), "ratio")

    def test_ends_of_the_range(self):
        one = told_of({"B1": "=IF(A1=0,5,A1)", "B2": "=IF(A1=1,5,A1)"}, low=0, high=1)
        self.assertEqual(parts_from(one, one, "A1", "B1"), Ratio(0))
        self.assertEqual(parts_from(one, one, "A1", "B2"), Ratio(1))

    def test_other_free_cells(self):
        one, other = told_of({"B1": "=A1*3+C1", "C1": "2"}), told_of({"B1": "=A1*3+C1", "A1": "2"}, free="C1")
        self.assertEqual(parts_from(one, other, "A1", "C1"), None)
        self.assertIsNotNone(parts_from(one, other, "B1", "B1"))
        other = told_of({"B1": "=C1+C1+C1+2"}, free="C1")
        self.assertIsNone(parts_from(one=one, other=other, cell="B1", peer="B1"))

    def test_wrong_arguments(self):
        told = told_of(CELLS)
        for value in (None, 1, told.book):
            self.bad(value, parts_from, value, told, "B1", "B1")
            self.bad(value, parts_from, told, value, None, "B1")
            self.bad(value, alike_places, value, told)
            self.bad(value, alike_places, told, value)
        for low, high in ((0, None), (None, 0), (0, 1)):
            other = told_of(CELLS, low=low, high=high)
            self.bad(other, parts_from, told, other, None, "B1")
            self.bad(told, alike_places, other, told)
        self.assertIsNone(parts_from(told_of({}, low=1, high=2), told_of({}, low=Ratio(2, 2), high=Ratio(2)), "A1", "A1"))
        for value in (None, 1, True):
            self.bad(value, parts_from, told, told, value, 5)
            self.bad(value, parts_from, told, told, "?", value)
        self.fails(NotAName, {"name": "?"}, parts_from, told, told, "?", "Tax!A1")
        self.fails(Unknown, {"name": "Tax"}, parts_from, told, told, "B9", "Tax!A1")
        self.fails(NotTold, {}, parts_from, told, told, "B9", "C6")
        self.fails(NotTold, {}, parts_from, told, told, "B1", "B9")
        self.fails(TooHigh, {"most": 60}, parts_from, told, told, "C6", "B1")


class AlikePlaces(RowCase):
    def test_places_in_order(self):
        one = Told(book_of({"C1": "=A1+A1", "B2": "=A1", "A3": "5", "A4": "x", "Tax!A1": "=Sheet1!A1"}, sheets=("Tax",)), "A1")
        other = Told(book_of({"C1": "=2*A1", "B2": "=A1+1", "A3": "=10/2", "A4": "X", "tax!A1": "=Sheet1!B2-1"},
                             sheets=("tax",)), "A1")
        self.assertEqual(alike_places(one, other), ("Sheet1!A1", "Sheet1!C1", "Sheet1!A3", "Tax!A1"))
        self.assertEqual(alike_places(other=one, one=other), ("Sheet1!A1", "Sheet1!C1", "Sheet1!A3", "tax!A1"))

    def test_cells_that_one_book_alone_has(self):
        one = told_of({"B1": "=A1", "B2": "1", "B3": "=SEQUENCE(2)", "Tax!A1": "1"}, sheets=("Tax",))
        other = told_of({"B1": "=A1*1", "B3": "=SEQUENCE(2)", "B7": "2"})
        self.assertEqual(alike_places(one, other), ("Sheet1!A1", "Sheet1!B1", "Sheet1!B3"))
        self.assertEqual(alike_places(other, one), ("Sheet1!A1", "Sheet1!B1", "Sheet1!B3"))

    def test_cells_that_are_not_told(self):
        one = told_of({"B1": "=A1&1", "B2": "=A1^61", "B3": "=INT(A1)", "B4": "=A1", "B5": "=9^64^64"})
        self.assertEqual(alike_places(one, one), ("Sheet1!A1", "Sheet1!B4"))
        other = told_of({"B1": "1", "B4": "=A1&\"\""})
        self.assertEqual(alike_places(one, other), ("Sheet1!A1",))

    def test_free_cells_count(self):
        one, other = told_of({"B1": "=C1"}, free="C1"), told_of({"B1": "=A1", "C1": "=A1"}, free="A1")
        self.assertEqual(alike_places(one, other), ("Sheet1!B1", "Sheet1!C1"))
        self.assertEqual(alike_places(other, one), ("Sheet1!B1", "Sheet1!C1"))
        one, other = told_of({"A1": "=B2*9"}, free="B2"), told_of({}, free="B2")
        self.assertEqual(alike_places(one, other), ("Sheet1!B2",))
        self.assertEqual(alike_places(told_of({}, free="A1"), told_of({}, free="B1")), ())

    def test_rings_are_alike(self):
        one = told_of({"B1": "=B1", "B2": "=A1"})
        self.assertEqual(alike_places(one, told_of({"B1": "=B2", "B2": "=B1"})), ("Sheet1!A1", "Sheet1!B1"))
