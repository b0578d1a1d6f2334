"""[62], [63], [123]: where cells fail."""

from allinputs.breaks import failing, first_break
from allinputs.errors import NotAName, NotTold, Unknown
from allinputs.ratios import Ratio
from allinputs.spans import Span
from tests.helper import NO_RATIOS, ROOT
from tests.rows import RowCase, place_text, places_text, told_of

CELLS = {
    "B1": "=1/(A1-2)", "B2": "=IF(A1<0,NA(),IF(A1>=5,1/0,A1))", "B3": "=1/(A1*A1-2)", "B4": "=A1", "B5": "=1/0",
    "B6": "=IF(A1*A1<2,1/0,1)", "B7": "=IF(A1*A1<=2,1/0,1)", "B8": "=IF(A1<0,1/0,IF(A1=0,NA(),IF(A1<1,#REF,2)))", "B9": "=A1&1",
}


class Breaks(RowCase):
    def test_where_cells_fail(self):
        told = told_of(CELLS)
        for cell, text in {"B1": "2", "B2": "(,0) 5 (5,)", "B3": "~-1.414 ~1.414", "B4": "", "B5": "(,)",
                           "B6": "(~-1.414,~1.414)", "B7": "~-1.414 (~-1.414,~1.414) ~1.414", "B8": "(,1)"}.items():
            self.assertEqual(places_text(failing(told, cell)), text, cell)
        self.assertEqual(failing(told, "B2"), (Span(None, 0), Ratio(5), Span(5, None)))
        told = told_of(CELLS, low=0, high=2)
        self.assertEqual(failing(told, "B1"), (Ratio(2),))
        self.assertEqual(failing(told, "B5"), (Ratio(0), Span(0, 2), Ratio(2)))
        self.assertEqual(failing(told, "B2"), ())

    def breaks(self, told, cell, ratio, up, text):
        found = first_break(told, cell, ratio, up)
        self.assertEqual(None if found is None else (place_text(found[0]), found[1]), text)

    def test_upwards(self):
        told = told_of(CELLS)
        self.breaks(told, "B1", 0, True, ("2", True))
        self.breaks(told, "B1", 2, True, ("2", True))
        self.breaks(told, "B1", 3, True, None)
        self.breaks(told, "B2", -7, True, ("-7", True))
        self.breaks(told, "B2", 0, True, ("5", True))
        self.breaks(told, "B2", 5, True, ("5", True))
        self.breaks(told, "B2", 6, True, ("6", True))
        self.breaks(told, "B3", 0, True, ("~1.414", True))
        self.breaks(told, "B3", 2, True, None)
        self.breaks(told, "B4", 0, True, None)
        self.breaks(told, "B6", -2, True, ("~-1.414", False))
        self.breaks(told, "B6", 0, True, ("0", True))
        self.breaks(told, "B6", 2, True, None)
        self.breaks(told, "B7", -2, True, ("~-1.414", True))

    def test_downwards(self):
        told = told_of(CELLS)
        self.breaks(told, "B1", 5, False, ("2", True))
        self.breaks(told, "B1", 2, False, ("2", True))
        self.breaks(told, "B1", 1, False, None)
        self.breaks(told, "B2", 3, False, ("0", False))
        self.breaks(told, "B2", 0, False, ("0", False))
        self.breaks(told, "B2", 5, False, ("5", True))
        self.breaks(told, "B2", -1, False, ("-1", True))
        self.breaks(told, "B6", 9, False, ("~1.414", False))
        self.breaks(told, "B7", 9, False, ("~1.414", True))
        self.breaks(told, "B3", -1, False, ("~-1.414", True))
        self.breaks(told, "B8", 7, False, ("1", False))

    def test_starts_at_edges_that_do_not_fail(self):
        told = told_of({"B1": "=IF(AND(A1>1,A1<2),1/0,A1)"})
        self.breaks(told, "B1", 1, True, ("1", False))
        self.breaks(told, "B1", 2, False, ("2", False))
        self.breaks(told, "B1", 2, True, None)
        self.breaks(told, "B1", 1, False, None)
        self.breaks(told, "B1", Ratio(3, 2), True, ("3/2", True))

    def test_ends_of_the_range(self):
        told = told_of(CELLS, low=0, high=5)
        self.breaks(told, "B2", 0, True, ("5", True))
        self.breaks(told, "B2", 5, False, ("5", True))
        self.breaks(told, "B2", 0, False, None)
        self.breaks(told, "B5", 0, True, ("0", True))
        self.breaks(told, "B5", 5, False, ("5", True))
        self.assertEqual(first_break(told, "B2", 1), (Ratio(5), True))
        self.assertEqual(first_break(up=False, ratio=4, cell="B1", told=told), (Ratio(2), True))
        self.assertIsInstance(first_break(told, "B5", 2)[0], Ratio)

    def test_wrong_arguments(self):
        told = told_of(CELLS, low=0, high=5)
        for value in (None, 1, told.book):
            self.bad(value, failing, value, "B1")
            self.bad(value, first_break, value, "B1", 9, None)
        for value in (None, 1, True):
            self.bad(value, failing, told, value)
            self.bad(value, first_break, told, value, 9, None)
        for value in NO_RATIOS + (None, -1, Ratio(51, 10), ROOT):
            self.bad(value, first_break, told, "?", value, None)
        for value in (None, 1, 0, "up"):
            self.bad(value, first_break, told, "?", 1, value)
        self.fails(NotAName, {"name": "?"}, failing, told, "?")
        self.fails(Unknown, {"name": "Tax"}, first_break, told, "Tax!A1", 1)
        self.fails(NotTold, {}, failing, told, "B9")
        self.fails(NotTold, {}, first_break, told, "B9", 1)
