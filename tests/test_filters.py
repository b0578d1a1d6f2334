"""[14], [30], [75], [131]: filters."""

from itertools import combinations

from allinputs.criteria import meets
from allinputs.filters import barring, fewest_lifted, kept, selectable, top_rows
from allinputs.grids import Grid
from allinputs.ratios import Ratio
from allinputs.values import Fault
from tests.calls import thing
from tests.helper import NO_INTEGERS, Case

GRID = thing([["a", 2, True], ["b", 5, None], ["A", 3, "#NA"], [None, "x", False], ["ab", -1, "#DIV"], ["", 5, "#NA"]])


class Filters(Case):
    def test_kept(self):
        self.assertEqual(kept(GRID, []), [1, 2, 3, 4, 5, 6])
        self.assertEqual(kept(GRID, [(1, "a")]), [1, 3])
        self.assertEqual(kept(GRID, [(1, "a*")]), [1, 3, 5])
        self.assertEqual(kept(GRID, [(2, ">2")]), [2, 3, 6])
        self.assertEqual(kept(GRID, [(2, Ratio(5)), (1, "<>b")]), [6])
        self.assertEqual(kept(GRID, [(2, ">2"), (2, "<5")]), [3])
        self.assertEqual(kept(GRID, [(1, "=")]), [4])
        self.assertEqual(kept(GRID, [(1, "")]), [4, 6])
        self.assertEqual(kept(GRID, [(3, True)]), [1])
        self.assertEqual(kept(GRID, [(3, None)]), [])
        self.assertEqual(kept(GRID, [(2, "<>5")]), [1, 3, 4, 5])
        self.assertEqual(kept(GRID, [(3, "<>x")]), [1, 2, 4])
        self.assertEqual(kept(tests=[[1, "zz"]], grid=GRID), [])

    def test_barring(self):
        tests = [(1, "a*"), (2, ">2"), (3, "<>#"), (2, "<9")]
        self.assertEqual([barring(GRID, tests, row) for row in range(1, 7)],
                         [[1], [0], [2], [0, 1, 3], [1, 2], [0, 2]])
        self.assertEqual(barring(row=1, tests=[], grid=GRID), [])
        for row in range(1, 7):
            self.assertEqual(barring(GRID, tests, row) == [], row in kept(GRID, tests))

    def test_selectable(self):
        self.assertEqual(selectable(GRID, [], 1), ["", "a", "ab", "b", None])
        self.assertEqual(selectable(GRID, [(2, ">2")], 1), ["", "A", "b"])
        self.assertEqual(selectable(GRID, [(1, "b")], 1), ["", "a", "ab", "b", None])
        self.assertEqual(selectable(GRID, [(1, "zz"), (2, "<3")], 1), ["a", "ab"])
        self.assertEqual(selectable(GRID, [], 2), [Ratio(-1), Ratio(2), Ratio(3), Ratio(5), "x"])
        self.assertEqual(selectable(GRID, [], 3), [False, True, Fault("NA"), Fault("DIV"), None])
        self.assertEqual(selectable(column=3, tests=[(1, "<>b")], grid=GRID), [False, True, Fault("NA"), Fault("DIV")])
        self.assertEqual(selectable(GRID, [(2, ">99")], 1), [])
        self.assertEqual(selectable(thing([["B"], ["b"], ["A"], ["b"]]), [], 1), ["A", "B"])

    def test_fewest_lifted(self):
        tests = [(1, "a*"), (2, ">2"), (1, "<>a")]
        self.assertEqual(fewest_lifted(GRID, tests, 0), [])
        self.assertEqual(fewest_lifted(GRID, tests, 1), [0])
        self.assertEqual(fewest_lifted(GRID, tests, 2), [0])
        self.assertEqual(fewest_lifted(GRID, tests, 3), [0, 1])
        self.assertEqual(fewest_lifted(GRID, tests, 4), [0, 1])
        self.assertEqual(fewest_lifted(GRID, tests, 5), [0, 1, 2])
        self.assertEqual(fewest_lifted(GRID, tests, 6), [0, 1, 2])
        self.assertIsNone(fewest_lifted(GRID, tests, 7))
        self.assertEqual(fewest_lifted(GRID, [], 6), [])
        self.assertIsNone(fewest_lifted(many=7, tests=[], grid=GRID))
        self.assertEqual(fewest_lifted(GRID, [(1, "a"), (2, ">2")], 2), [0])
        self.assertEqual(fewest_lifted(GRID, [(2, ">2"), (1, "a*")], 3), [0])

    def test_fewest_lifted_of_all_lists(self):
        tests = [(1, "a*"), (2, ">2"), (2, "<5"), (1, "<>a"), (3, "<>#"), (2, "5"), (1, "?"), (3, "")]
        lists = sorted((list(some) for size in range(9) for some in combinations(range(8), size)), key=lambda some: (len(some), some))
        for many in range(8):
            found = None
            for lifted in lists:
                left = [test for at, test in enumerate(tests) if at not in lifted]
                if len([row for row in GRID.rows if all(meets(row[column - 1], criterion) for column, criterion in left)]) >= many:
                    found = lifted
                    break
            self.assertEqual(fewest_lifted(GRID, tests, many), found)

    def test_top_rows(self):
        self.assertEqual(top_rows(GRID, 2, 0), [])
        self.assertEqual(top_rows(GRID, 2, 1), [2, 6])
        self.assertEqual(top_rows(GRID, 2, 2), [2, 6])
        self.assertEqual(top_rows(GRID, 2, 3), [2, 3, 6])
        self.assertEqual(top_rows(GRID, 2, 4), [1, 2, 3, 6])
        self.assertEqual(top_rows(GRID, 2, 100), [1, 2, 3, 5, 6])
        self.assertEqual(top_rows(many=5, column=1, grid=GRID), [])

    def test_wrong_arguments(self):
        calls = [(kept, ()), (barring, (1,)), (selectable, (1,)), (fewest_lifted, (1,))]
        for call, rest in calls:
            for value in (None, 1, [["a"]], "a"):
                self.bad(value, call, value, [(1, "a")], *rest)
            for value in (None, 1, "a", {1: "a"}):
                self.bad(value, call, GRID, value, *rest)
            for value in ((0, "a"), (4, "a"), (True, "a"), ("1", "a"), (1, Fault("NA")), (1, 5), (1, 1.5), (1,), (1, "a", 2), None,
                          1, "1a", (1, "\n"), (1, ["a"])):
                self.bad(value, call, GRID, [(1, "a"), value, 7], *rest)
            many = [(1, "a")] * 9
            self.bad(many, call, GRID, many, *rest)
            call(GRID, [(1, "a")] * 8, *rest)
        for value in NO_INTEGERS + (0, 7, -1):
            self.bad(value, barring, GRID, [], value)
        for value in NO_INTEGERS + (0, 4, -1):
            self.bad(value, selectable, GRID, [], value)
            self.bad(value, top_rows, GRID, value, None)
        for value in NO_INTEGERS + (-1,):
            self.bad(value, fewest_lifted, GRID, [], value)
            self.bad(value, top_rows, GRID, 1, value)
        self.bad(None, top_rows, None, 1, 1)
        self.assertEqual(kept(Grid([["a"]]), [(1, "a")]), [1])
