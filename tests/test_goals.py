"""[62], [122]: where cells are a number, or have a sign."""

from allinputs.errors import NotAName, NotTold, Unknown
from allinputs.goals import goal, where_sign
from allinputs.points import Point
from allinputs.ratios import Ratio
from allinputs.spans import Span
from tests.helper import NO_INTEGERS, NO_RATIOS, ROOT, X
from tests.rows import RowCase, places_text, told_of

CELLS = {
    "B1": "=A1*A1-2", "B2": "=IF(A1<0,5,IF(A1<3,A1,5))", "B3": "=IF(A1=1,5,IF(A1<1,5,A1))", "B4": "=IF(A1>2,TRUE,C9)",
    "B5": "=IF(A1=2,\"x\",5)", "B6": "=1/A1", "B7": "=IF(A1*A1=2,0,1)", "B8": "=A1*A1*(A1-3)", "B9": "=A1&\"\"",
    "C1": "=IF(A1<1,A1+5,IF(A1=1,6,A1*A1+5))", "C2": "=IF(A1*A1<2,7,A1*A1+5)", "C3": "=IF(A1<0,-1,A1+1)", "C4": "=1/0",
}


class Goals(RowCase):
    def test_points_of_curves(self):
        told = told_of(CELLS)
        self.assertEqual(goal(told, "B1", 0), (Point(X * X - 2, -2, 0), ROOT))
        self.assertEqual(goal(told, "B1", 2), (Ratio(-2), Ratio(2)))
        self.assertEqual(goal(told, "B1", Ratio(1, 4)), (Ratio(-3, 2), Ratio(3, 2)))
        self.assertEqual(goal(told, "B1", -3), ())
        self.assertEqual(goal(told, "B1", -2), (Ratio(0),))
        self.assertEqual(goal(told, "B6", 0), ())

    def test_level_parts_are_spans(self):
        told = told_of(CELLS)
        self.assertEqual(goal(told, "B2", 5), (Span(None, 0), Ratio(3), Span(3, None)))
        self.assertEqual(goal(told, "B2", 0), (Ratio(0),))
        self.assertEqual(goal(told, "B3", 5), (Span(None, 1), Ratio(1), Ratio(5)))
        self.assertEqual(goal(told, "B5", 5), (Span(None, 2), Span(2, None)))
        self.assertEqual(places_text(goal(told, "B7", 1)), "(,~-1.414) (~-1.414,~1.414) (~1.414,)")
        self.assertEqual(places_text(goal(told, "B7", 0)), "~-1.414 ~1.414")
        self.assertEqual(places_text(goal(told, "C2", 7)), "~-1.414 (~-1.414,~1.414) ~1.414")

    def test_truths_blanks_texts_and_faults_are_none(self):
        told = told_of(CELLS)
        self.assertEqual(goal(told, "B4", 1), ())
        self.assertEqual(goal(told, "C9", 0), ())
        self.assertEqual(goal(told, "C4", 0), ())
        self.assertEqual(goal(told, "B4", 0), (Span(None, 2), Ratio(2)))

    def test_ends_of_the_range(self):
        told = told_of(CELLS, low=-2, high=2)
        self.assertEqual(goal(told, "B1", 2), (Ratio(-2), Ratio(2)))
        self.assertEqual(goal(told, "B2", 5), (Ratio(-2), Span(-2, 0)))
        self.assertEqual(goal(told, "A1", 2), (Ratio(2),))
        self.assertEqual(goal(told, "A1", 3), ())
        self.assertEqual(goal(told_of({"B1": "=IF(A1=0,1,0)"}, low=0, high=1), "B1", 0), (Span(0, 1), Ratio(1)))
        self.assertEqual(goal(told_of({"B1": "=IF(A1=1,1,0)"}, low=0, high=1), "B1", 0), (Ratio(0), Span(0, 1)))

    def test_each_sign(self):
        told = told_of(CELLS)
        self.assertEqual(places_text(where_sign(told, "B1", -1)), "(~-1.414,~1.414)")
        self.assertEqual(places_text(where_sign(told, "B1", 0)), "~-1.414 ~1.414")
        self.assertEqual(places_text(where_sign(told, "B1", 1)), "(,~-1.414) (~1.414,)")
        self.assertEqual(where_sign(told, "B8", -1), (Span(None, 0), Span(0, 3)))
        self.assertEqual(where_sign(told, "B8", 0), (Ratio(0), Ratio(3)))
        self.assertEqual(where_sign(told, "B6", 1), (Span(0, None),))
        self.assertEqual(where_sign(told, "B6", 0), ())
        self.assertEqual(where_sign(told, "B6", -1), (Span(None, 0),))

    def test_greatest_spans(self):
        told = told_of(CELLS)
        self.assertEqual(where_sign(told, "C1", 1), (Span(-5, None),))
        self.assertEqual(where_sign(told, "C3", 1), (Ratio(0), Span(0, None)))
        self.assertEqual(where_sign(told, "C3", -1), (Span(None, 0),))
        self.assertEqual(where_sign(told, "B2", 1), (Span(None, 0), Span(0, None)))
        self.assertEqual(where_sign(told, "B4", 0), (Span(None, 2), Ratio(2)))
        self.assertEqual(where_sign(told, "C4", 1), ())
        self.assertEqual(where_sign(told_of(CELLS, low=0, high=5), "B2", 1), (Span(0, 5), Ratio(5)))
        told = told_of({"B1": "=IF(A1*A1=2,A1,0)"})
        self.assertEqual(places_text(where_sign(told, "B1", 1)), "~1.414")
        self.assertEqual(places_text(where_sign(told, "B1", -1)), "~-1.414")

    def test_wrong_arguments(self):
        told = told_of(CELLS)
        for value in (None, 1, "A1", told.book):
            self.bad(value, goal, value, "B1", 1)
            self.bad(value, where_sign, value, "B1", 1)
        for value in (None, 1, True, ["B1"]):
            self.bad(value, goal, told, value, None)
            self.bad(value, where_sign, told, value, 5)
        for value in NO_RATIOS + (None, ROOT):
            self.bad(value, goal, told, "?", value)
        for value in NO_INTEGERS + (-2, 2):
            self.bad(value, where_sign, told, "?", value)
        self.fails(NotAName, {"name": "?"}, goal, told, "?", 1)
        self.fails(Unknown, {"name": "Tax"}, where_sign, told, "Tax!A1", 1)
        self.fails(NotTold, {}, goal, told, "B9", 1)
        self.fails(NotTold, {}, where_sign, told, "B9", 1)
        self.assertEqual(goal(ratio=2, cell="A1", told=told), where_sign(sign=0, told=told_of({"A2": "=A1-2"}), cell="A2"))
