"""[58], [60], [125]: tables for told numbers, and the steps of cells."""

from allinputs.errors import NotAName, NotTold, TooHigh, Unknown
from allinputs.ratios import Ratio
from allinputs.tables import steps_of, what_if
from tests.helper import NO_RATIOS, ROOT
from tests.rows import RowCase, places_text, told_of, value_text

CELLS = {"B1": "=A1*2", "B2": "=IF(A1<1,\"low\",1/(A1-2))", "B3": "=A1*A1<2", "B4": "=A1&1", "B5": "=A1^61", "B6": "7"}


class Tables(RowCase):
    def table(self, told, cells, ratios):
        return [[value_text(value) for value in row] for row in what_if(told, cells, ratios)]

    def test_several_cells_and_ratios_in_their_order(self):
        told = told_of(CELLS)
        self.assertEqual(self.table(told, ["B2", "B1", "A1"], [2, Ratio(1, 2), 5]),
                         [["#DIV", "4", "2"], ["'low'", "1", "1/2"], ["1/3", "10", "5"]])
        self.assertEqual(self.table(told, ("B1", "b1"), (1, 1)), [["2", "2"], ["2", "2"]])
        self.assertEqual(self.table(told, ["C9", "B6"], [0]), [["None", "7"]])
        self.assertEqual(self.table(told, [], [1, 2]), [[], []])
        self.assertEqual(self.table(told, ["B1"], []), [])

    def test_as_value_at(self):
        told = told_of(CELLS, low=-1, high=3)
        for ratio in (-1, 0, 1, Ratio(3, 2), 2, 3):
            row = what_if(ratios=[ratio], cells=["B1", "B2", "B3"], told=told)[0]
            self.assertEqual(row, [told.value_at(cell, ratio) for cell in ("B1", "B2", "B3")])

    def test_steps(self):
        told = told_of(CELLS)
        self.assertEqual(steps_of(told, "B1"), ())
        self.assertEqual(steps_of(told, "B2"), (Ratio(1), Ratio(2)))
        self.assertEqual(places_text(steps_of(told, "B3")), "~-1.414 ~1.414")
        self.assertEqual(steps_of(told, "B3")[1], ROOT)
        told = told_of(CELLS, low=0, high=2)
        self.assertEqual(steps_of(told, "B1"), (Ratio(0), Ratio(2)))
        self.assertEqual(steps_of(told, "B2"), (Ratio(0), Ratio(1), Ratio(2)))

    def test_wrong_arguments(self):
        told = told_of(CELLS, low=0, high=5)
        for value in (None, 1, told.book):
            self.bad(value, what_if, value, ["B1"], [1])
            self.bad(value, steps_of, value, "B1")
        for value in (None, "B1", 1, {"B1": 1}):
            self.bad(value, what_if, told, value, [9])
            self.bad(value, what_if, told, ["?"], value)
        for value in (None, 1, ["B1"]):
            self.bad(value, what_if, told, ["?", value, 3.5], [9])
            self.bad(value, steps_of, told, value)
        for value in NO_RATIOS + (None, -1, 6, ROOT):
            self.bad(value, what_if, told, ["?"], [1, value, 7])
        self.fails(NotAName, {"name": "?"}, what_if, told, ["B4", "?", "Tax!A1"], [1])
        self.fails(Unknown, {"name": "Tax"}, what_if, told, ["B4", "Tax!A1", "?"], [])
        self.fails(NotTold, {}, what_if, told, ["B4", "B5"], [1])
        self.fails(TooHigh, {"most": 60}, what_if, told, ["B1", "B5", "B4"], [])
        self.fails(NotAName, {"name": "?"}, steps_of, told, "?")
        self.fails(NotTold, {}, steps_of, told, "B4")
