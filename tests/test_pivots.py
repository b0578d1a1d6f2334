"""[14], [76], [132]: pivots."""

from allinputs.errors import TooHigh, TooMany
from allinputs.grids import Grid
from allinputs.pivots import Pivot, changes
from allinputs.ratios import Ratio
from allinputs.values import Fault
from tests.calls import alike, thing
from tests.helper import NO_INTEGERS, Case

GRID = thing([
    ["b", "x", 1, 2], ["a", "Y", 1, 3], ["B", "y", 2, 5], ["a", "x", 1, None], ["b", "X", 1, 7], [None, "y", 3, "#NA"],
    ["a", "y", 2, "text"],
])


class Pivots(Case):
    def test_keys(self):
        pivot = Pivot(GRID, [1], [2], 4, "SUM")
        self.assertEqual(pivot.row_keys(), [("a",), ("b",), (None,)])
        self.assertEqual(pivot.column_keys(), [("x",), ("Y",)])
        pivot = Pivot(GRID, [3, 1], [], 4, "SUM")
        one, two, three = Ratio(1), Ratio(2), Ratio(3)
        self.assertEqual(pivot.row_keys(), [(one, "a"), (one, "b"), (two, "a"), (two, "B"), (three, None)])
        self.assertEqual(pivot.column_keys(), [()])
        self.assertEqual(Pivot(GRID, [], [], 4, "SUM").row_keys(), [()])

    def test_keys_of_all_kinds(self):
        grid = thing([[True], ["#NA"], [None], ["b"], [2], [Ratio(1, 2)], ["#DIV"], [False], ["#NA"], ["B"]])
        self.assertEqual([key[0] for key in Pivot(grid, [1], [], 1, "COUNTA").row_keys()],
                         [Ratio(1, 2), Ratio(2), "b", False, True, Fault("NA"), Fault("DIV"), None])

    def test_members(self):
        pivot = Pivot(GRID, [1], [2], 4, "SUM")
        self.assertEqual(pivot.rows_of(("B",), ("X",)), [1, 5])
        self.assertEqual(pivot.rows_of(("b",), None), [1, 3, 5])
        self.assertEqual(pivot.rows_of(None, ["y"]), [2, 3, 6, 7])
        self.assertEqual(pivot.rows_of(None, None), [1, 2, 3, 4, 5, 6, 7])
        self.assertEqual(pivot.rows_of((None,), None), [6])
        self.assertEqual(pivot.rows_of(column_key=("x",), row_key=("zz",)), [])
        self.assertEqual(pivot.rows_of(("",), None), [])
        pivot = Pivot(GRID, [], [2, 3], 4, "SUM")
        self.assertEqual(pivot.rows_of((), ("x", Ratio(1))), [1, 4, 5])

    def test_figures_of_each_measure(self):
        told = {"SUM": 10, "PRODUCT": 15, "COUNT": 2, "COUNTA": 3, "AVERAGE": 5, "MIN": 2, "MAX": 7, "MEDIAN": Ratio(9, 2)}
        for measure in told:
            pivot = Pivot(GRID, [1], [2], 4, measure)
            figures = {
                "SUM": 9, "PRODUCT": 14, "COUNT": 2, "COUNTA": 2, "AVERAGE": Ratio(9, 2), "MIN": 2, "MAX": 7, "MEDIAN": Ratio(9, 2)}
            self.assertTrue(alike(pivot.figure(("b",), ("x",)), thing(figures[measure])), measure)
            self.assertIsNone(pivot.figure(("b",), ("zz",)))
            fault = 1 if measure == "COUNTA" else 0 if measure == "COUNT" else "#NA"
            self.assertTrue(alike(pivot.figure((None,), None), thing(fault)), measure)
        empty = {"SUM": 0, "PRODUCT": 0, "COUNT": 0, "COUNTA": 1, "AVERAGE": "#DIV", "MIN": 0, "MAX": 0, "MEDIAN": "#NUM"}
        for measure, figure in empty.items():
            self.assertTrue(alike(Pivot(GRID, [1], [3], 4, measure).figure(("a",), (Ratio(2),)), thing(figure)), measure)
        self.assertEqual(Pivot(GRID, [1], [2], 4, "SUM").figure(column_key=None, row_key=("a",)), Ratio(3))

    def table(self, pivot, rows):
        self.assertTrue(alike(pivot.table(), thing(rows)), pivot.table().rows)

    def test_tables(self):
        self.table(Pivot(GRID, [1], [2], 4, "COUNTA"), [
            [None, "x", "Y", "Total"], ["a", 0, 2, 2], ["b", 2, 1, 3], [None, None, 1, 1], ["Total", 2, 4, 6]])
        self.table(Pivot(GRID, [1, 3], [], 4, "COUNT"), [
            [None, None, None, "Total"], ["a", 1, 1, 1], ["a", 2, 0, 0], ["b", 1, 2, 2], ["B", 2, 1, 1], [None, 3, 0, 0],
            ["Total", None, 4, 4]])
        self.table(Pivot(GRID, [], [2, 3], 4, "SUM"), [
            [None, "x", "Y", "y", "y", "Total"], [None, 1, 1, 2, 3, None], [None, 9, 3, 5, "#NA", "#NA"],
            ["Total", 9, 3, 5, "#NA", "#NA"]])
        self.table(Pivot(GRID, [], [], 3, "MAX"), [[None, None, "Total"], [None, 3, 3], ["Total", 3, 3]])

    def test_heads_of_two_columns_each(self):
        grid = thing([["a", 1, "x", True, 5]])
        self.table(Pivot(grid, [1, 2], [3, 4], 5, "SUM"), [
            [None, None, "x", "Total"], [None, None, True, None], ["a", 1, 5, 5], ["Total", None, 5, 5]])

    def test_tables_are_the_figures(self):
        pivot = Pivot(GRID, [1], [2, 3], 4, "SUM")
        rows, columns = pivot.row_keys() + [None], pivot.column_keys() + [None]
        table = pivot.table()
        for down, row in enumerate(rows):
            for right, column in enumerate(columns):
                self.assertTrue(alike(table.value_at(3 + down, 2 + right), pivot.figure(row, column)))

    def test_too_many(self):
        grid = Grid([(Ratio(at), Ratio(1)) for at in range(99)])
        self.assertEqual(Pivot(grid, [1], [], 2, "SUM").table().height, 101)
        wide = Grid([(Ratio(at), Ratio(at)) for at in range(98)])
        self.assertEqual(len(Pivot(wide, [1], [2], 2, "SUM").table().cells()), 10000)
        wide = Grid([(Ratio(at), Ratio(at)) for at in range(99)])
        self.fails(TooMany, {"most": 10000}, Pivot(wide, [1], [2], 2, "SUM").table)
        high = Pivot(Grid([(Ratio(10 ** 2999),), (Ratio(10 ** 2999),)]), [], [], 1, "PRODUCT")
        self.fails(TooHigh, {"most": 3000}, high.figure, None, None)

    def test_changes(self):
        one = Pivot(thing([["a", "x", 1], ["B", "x", 2], ["c", "y", 3]]), [1], [2], 3, "SUM")
        other = Pivot(thing([["A", "X", 1], ["b", "x", 5], ["d", "y", 3], ["a", "z", 0]]), [1], [2], 3, "SUM")
        self.assertEqual(changes(one, one), [])
        self.assertEqual(changes(one, other), [
            (("a",), ("z",), None, Ratio(0)), (("B",), ("x",), Ratio(2), Ratio(5)), (("c",), ("y",), Ratio(3), None),
            (("d",), ("y",), None, Ratio(3))])
        self.assertEqual(changes(other=one, pivot=other), [
            (("A",), ("z",), Ratio(0), None), (("b",), ("X",), Ratio(5), Ratio(2)), (("c",), ("y",), None, Ratio(3)),
            (("d",), ("y",), Ratio(3), None)])

    def test_keys_of_both_in_order(self):
        # Faults are sorted alike: those of the first one come ahead.
        one = Pivot(thing([["#NA", 1], [3, 1], [None, 1]]), [1], [], 2, "SUM")
        other = Pivot(thing([["#DIV", 1], ["x", 2], [1, 1]]), [1], [], 2, "SUM")
        self.assertEqual([row[0][0] for row in changes(one, other)],
                         [Ratio(1), Ratio(3), "x", Fault("NA"), Fault("DIV"), None])
        self.assertEqual([row[1] for row in changes(one, other)], [()] * 6)

    def test_changes_of_capitals_and_kinds(self):
        one = Pivot(thing([["a", 1], ["b", "t"]]), [1], [], 2, "COUNT")
        other = Pivot(thing([["a", 1], ["b", 0]]), [1], [], 2, "MIN")
        self.assertEqual(changes(one, other), [])
        other = Pivot(thing([["a", "#NA"], ["b", 0]]), [1], [], 2, "SUM")
        self.assertEqual(changes(one, other), [(("a",), (), Ratio(1), Fault("NA"))])

    def test_wrong_arguments(self):
        for value in (None, 1, [["a"]]):
            self.bad(value, Pivot, value, [1], [], 1, "SUM")
        for value in (None, 1, "1", {1: 1}):
            self.bad(value, Pivot, GRID, value, [], 1, "SUM")
            self.bad(value, Pivot, GRID, [1], value, 9, "SUM")
        for value in NO_INTEGERS + (0, 5, -1):
            self.bad(value, Pivot, GRID, [1, value, 9], [], 1, "SUM")
            self.bad(value, Pivot, GRID, [], [1, value, 9], 9, "SUM")
            self.bad(value, Pivot, GRID, [1], [2], value, "x")
        twice = [1, 2, 1]
        self.bad(twice, Pivot, GRID, twice, [9], 1, "SUM")
        self.bad(twice, Pivot, GRID, [3], twice, 9, "SUM")
        both = [3, 1]
        self.bad(both, Pivot, GRID, [1, 2], both, 9, "SUM")
        for value in (None, 1, "sum", "ABS", "", ["SUM"]):
            self.bad(value, Pivot, GRID, [1], [2], 1, value)
        pivot = Pivot(measure="SUM", measured=1, column_columns=(2,), row_columns=(1, 3), grid=GRID)
        for call in (pivot.rows_of, pivot.figure):
            for value in ((), ("a",), ("a", 1), ("a", Ratio(1), 1), "ab", 1, ("a", 1.5)):
                self.bad(value, call, value, 7)
            for value in ((), (1,), ("x", "y"), "x", 1):
                self.bad(value, call, None, value)
        for value in (None, 1, GRID):
            self.bad(value, changes, value, pivot)
            self.bad(value, changes, pivot, value)
        for columns in (([1], [2]), ([1, 2], []), ([1, 2], [3, 4]), ([], [])):
            other = Pivot(GRID, columns[0], columns[1], 1, "SUM")
            self.bad(other, changes, pivot, other)
