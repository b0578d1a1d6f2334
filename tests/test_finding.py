"""[27], [35], [36], [109]: finding and arranging."""

from allinputs.errors import TooHigh
from allinputs.functions import call
from allinputs.grids import Grid
from allinputs.ratios import Ratio
from allinputs.values import Fault
from tests.calls import Calls, alike, result, thing
from tests.helper import Case

HALF = Ratio(1, 2)
UP = [[1, 3, "a", 5, True, 5, 9]]
DOWN = [[9], [5], ["x"], [5], [1]]
WORDS = [["Apple", "pear", "a*", None, "#NA", "zoo"]]
TABLE = [["a", 1, "x"], ["b", 2, "y"], ["d", 3, "z"]]


class Finding(Calls, Case):
    def test_match(self):
        for told, arguments in (
                (2, (4, UP)), (2, (3, UP)), (1, (1, UP, 1)), ("#NA", (0, UP)), (7, (99, UP)), (6, (5, UP)), (6, (Ratio(8), UP)),
                (4, (5, UP, 0)), ("#NA", (4, UP, 0)), ("#NA", ("5", UP, 0)), (5, (True, UP, 0)), (3, ("A", UP, 0)),
                (4, (5, DOWN, -1)), (1, (7, DOWN, -1)), (5, (0, DOWN, -1)), ("#NA", (10, DOWN, -1)), (5, (1, DOWN, Ratio(-9))),
                (2, (4, UP, HALF)), (1, ("A*", WORDS, 0)), (3, ("a~*", WORDS, 0)), (2, ("?EAR", WORDS, 0)), ("#NA", ("", WORDS, 0)),
                (1, (None, [[0, 1]], 0)), ("#NA", (None, [[None, ""]], 0)), (1, (None, [[0, 1]])), ("#NA", (1, [[1, 2], [3, 4]])),
                (1, (5, 5)), ("#NA", (5, 6)), ("#DIV", ("#DIV", "#NA")), ("#NA", (1, "#NA", "x")), ("#REF", (1, UP, "#REF")),
                ("#VALUE", (1, [[1, 2], [3, 4]], "x")), (1, (1, UP, None)), (6, ("zz", WORDS)), (1, ("b", WORDS, 1)), (2, ("q", [["a", "p", "r", "b"]]))):
            self.tells(told, "MATCH", *arguments)

    def test_near_places_stop_at_the_first_one_beyond(self):
        row = [[1, 5, 2, 3]]
        self.tells(1, "MATCH", 4, row)
        self.tells(4, "MATCH", 9, row)
        self.tells("#NA", "MATCH", 3, row, -1)
        self.tells(2, "LOOKUP", 3, [[1, 2, 9, 3]])

    def test_vertical_and_horizontal(self):
        turned = [["a", "b", "d"], [1, 2, 3], ["x", "y", "z"]]
        for name, table in (("VLOOKUP", TABLE), ("HLOOKUP", turned)):
            for told, arguments in (
                    (2, ("b", table, 2)), (2, ("c", table, 2)), ("z", ("zz", table, 3)), ("#NA", ("A ", table, 0, False)),
                    ("a", ("A", table, 1, False)), ("#NA", ("c", table, 2, False)), ("y", ("?", [["b", "y"]] if name == "VLOOKUP"
                     else [["b"], ["y"]], 2, False)), (1, ("*", table, 2, 0)), ("#VALUE", ("b", table, 0)),
                    ("#REF", ("b", table, 4)), ("#VALUE", ("zz", table, -5, False)), ("#REF", ("0", table, 4)),
                    ("#NA", ("#NA", table, "#DIV")), ("#VALUE", ("b", table, "x")), (2, ("b", table, Ratio(29, 10))),
                    ("#NA", (None, table, 2)), ("#NA", (5, table, 2)), ("#REF", ("b", table, 10 ** 30))):
                if arguments == ("A ", table, 0, False):
                    told = "#VALUE"
                self.tells(told, name, *arguments)
            self.tells(None, name, "a", [["a", None]] if name == "VLOOKUP" else [["a"], [None]], 2)

    def test_look_up(self):
        for told, arguments in (
                (20, (2, [[1, 2, 3]], [[10], [20], [30]])), (20, (Ratio(5, 2), [[1], [2], [3]], [[10, 20, 30]])),
                (2, (2, [[1, 2, 3]])), ("#NA", (0, [[1, 2, 3]])), ("#NA", (2, [[1, 2, 3]], [[1, 2]])),
                ("#NA", (1, [[1, 2], [3, 4]])), ("#NA", (1, [[1, 2]], [[1, 2], [3, 4]])), ("#REF", (1, [[1]], [["#REF"]])),
                ("#NA", (1, [[1]], "#NA")), (7, (1, 1, 7)), (0, (None, [[0, 1]])), ("#NA", (1, [[1, 2], [3, 4]], [[1, 2, 3, 4]])),
                ("#NA", (1, [[1, 2, 3, 4]], [[1, 2], [3, 4]]))):
            self.tells(told, "LOOKUP", *arguments)

    def test_look_up_by(self):
        keys, column = [[5, 1, 3, 3, "a", True]], [[5], [1], [3]]
        values = [[50, 10, 30, 31, "A", "T"]]
        for told, arguments in (
                (30, (3, keys, values)), ("#NA", (2, keys, values)), ("none", (2, keys, values, "none")),
                (None, (2, keys, values, None)), ([[1, 2]], (2, keys, values, [[1, 2]])), (10, (2, keys, values, "none", -1)),
                (30, (2, keys, values, "none", 1)), (50, (9, keys, values, "none", -1)), ("none", (9, keys, values, "none", 1)),
                ("none", (0, keys, values, "none", -1)), (10, (0, keys, values, "none", 1)), (30, (4, keys, values, 0, -1)),
                (30, (3, keys, values, 0, -1)), (30, (3, keys, values, 0, 1)), (50, (5, keys, values, 0, 1)),
                ("none", (4, keys, values, "none", 2)), ("none", (4, keys, values, "none", 0)),
                ("A", ("A", keys, values)), ("A", ("?", keys, values, 0, 2)), (0, ("?", keys, values, 0)),
                ("#VALUE", (1, keys, values, 0, 3)), ("#VALUE", (1, keys, values, 0, -2)), (30, (3, keys, values, 0, Ratio(1, 2))),
                ([["x", "y"]], (1, column, [["p", "q"], ["x", "y"], ["r", "s"]])), ("x", (1, column, [["p"], ["x"], ["r"]])),
                ([[10], ["w"]], (1, keys, [values[0], [1, "w", 2, 3, 4, 5]])), ("#VALUE", (1, [[1, 2], [3, 4]], [[1, 2], [3, 4]])),
                ("#VALUE", (1, keys, [[1, 2]])), ("#VALUE", (1, column, [[1, 2, 3]])), ([[7, 8]], (1, 1, [[7, 8]])),
                ("#VALUE", (1, 1, [[7], [8]])), ("#NA", ("#NA", keys, "#DIV")), ("#DIV", (1, keys, "#DIV")),
                ("#REF", (1, keys, values, 0, "#REF")), (50, (5, keys, values, "#DIV")), ("#DIV", (2, keys, values, "#DIV")),
                ("#VALUE", (2, keys, values, 0, "x")), ("b", (0, [[None, 0]], [["a", "b"]])),
                ("b", (None, [[None, 0]], [["a", "b"]]))):
            self.tells(told, "XLOOKUP", *arguments)

    def test_index(self):
        grid, row, column = [[1, 2, 3], [4, 5, 6]], [[7, 8, 9]], [[7], [8], [9]]
        for told, arguments in (
                (5, (grid, 2, 2)), ([[4, 5, 6]], (grid, 2)), ([[4, 5, 6]], (grid, 2, 0)), ([[2], [5]], (grid, 0, 2)),
                (grid, (grid, 0, 0)), (grid, (grid, 0)), (8, (row, 2)), (8, (column, 2)), (row, (row, 0)), (column, (column, 0)),
                (7, (row, 1, 1)), ("#REF", (row, 2, 1)), (row, (row, 1, 0)), (row, (row, 1, None)), (9, (row, 0, 3)),
                ("#VALUE", (grid, -1)), ("#REF", (grid, 3)), ("#VALUE", (grid, 3, -1)), ("#REF", (grid, 1, 4)), ("#REF", (row, 4)),
                ("#VALUE", (row, -1)), (5, (5, 0)), (5, (5, 1)), ("#REF", (5, 2)), (5, ([[5]], 1, 1)), (None, ([[None, 1]], 1)),
                ("#NA", ([["#NA", 1]], 1)), ("#NA", ("#NA", "#DIV")), ("#VALUE", (grid, "x")), (2, (grid, Ratio(3, 2), "2")),
                ("#VALUE", (grid, Ratio(-1, 2))), ("#REF", (grid, 10 ** 40))):
            self.tells(told, "INDEX", *arguments)

    def test_rows_and_columns(self):
        grid = Grid([["a", "b", "c"], ["d", "e", "f"]], (4, 7))
        for told, name, arguments in (
                ([[4], [5]], "ROW", (grid,)), ([[7, 8, 9]], "COLUMN", (grid,)), (1, "ROW", ()), (1, "COLUMN", ()),
                (4, "ROW", (Grid([["a", "b"]], (4, 7)),)), (7, "COLUMN", (Grid([["a"], ["b"]], (4, 7)),)),
                ("#VALUE", "ROW", (TABLE,)), ("#VALUE", "COLUMN", (5,)), ("#NA", "ROW", ("#NA",)), (2, "ROWS", (grid,)),
                (3, "COLUMNS", (grid,)), (1, "ROWS", (5,)), (1, "COLUMNS", (None,)), ("#NA", "ROWS", ("#NA",))):
            self.tells(told, name, *arguments)
        self.assertEqual(call("ROW", [], here=(12, 34)), Ratio(12))
        self.assertEqual(call("COLUMN", [], here=[12, 34]), Ratio(34))

    def test_transpose_and_products(self):
        self.tells([[1, 3], [2, 4]], "TRANSPOSE", [[1, 2], [3, 4]])
        self.tells([[5]], "TRANSPOSE", 5)
        self.tells("#NA", "TRANSPOSE", "#NA")
        self.tells([["#NA"]], "TRANSPOSE", [["#NA"]])
        self.tells([[19, 22], [43, 50]], "MMULT", [[1, 2], [3, 4]], [[5, 6], [7, 8]])
        self.tells([[Ratio(5, 6)]], "MMULT", [[HALF, Ratio(1, 3)]], [[1], [1]])
        self.tells([[6]], "MMULT", 2, 3)
        for told, one, other in (("#VALUE", [[1, 2]], [[1, 2]]), ("#VALUE", [[1, "2"]], [[1], [2]]),
                                 ("#VALUE", [[1, None]], [[1], [2]]), ("#NA", [[1, "x"]], [["#NA"], [2]]),
                                 ("#DIV", [["#DIV"]], [["#NA"]]), ("#VALUE", [[True]], [[1]])):
            self.tells(told, "MMULT", one, other)
        self.tells("#NUM", "MMULT", [[1]] * 101, [[1] * 100])
        self.assertEqual(result("MMULT", [[1]] * 100, [[1] * 100]).width, 100)
        self.fails(TooHigh, {"most": 3000}, result, "MMULT", 10 ** 2999, 10)


class Arranging(Calls, Case):
    def test_sort(self):
        grid = [[3, "c"], [1, "a"], [None, "n"], ["x", "t"], [1, "b"], [True, "u"], ["#NA", "f"]]
        self.tells([[1, "a"], [1, "b"], [3, "c"], ["x", "t"], [True, "u"], ["#NA", "f"], [None, "n"]], "SORT", grid)
        self.tells([["#NA", "f"], [True, "u"], ["x", "t"], [3, "c"], [1, "a"], [1, "b"], [None, "n"]], "SORT", grid, 1, -1)
        self.tells([[1, "a"], [1, "b"], [3, "c"]], "SORT", [[3, "c"], [1, "b"], [1, "a"]], 2)
        self.tells([[1, 2, 3]], "SORT", [[3, 1, 2]], 1, 1, True)
        self.tells([[3, 2, 1], ["c", "b", "a"]], "SORT", [[1, 2, 3], ["a", "b", "c"]], 2, -1, True)
        self.tells([[3, 1, 2]], "SORT", [[3, 1, 2]])
        self.tells([["b"], ["A"], ["a"]], "SORT", [["A"], ["b"], ["a"]], 1, -1)
        self.tells([[5]], "SORT", 5)
        for arguments in (([[1, 2]], 3), ([[1, 2]], 0), ([[1, 2]], 1, 2), ([[1, 2]], 1, 0), ([[1, 2]], 2, 1, True),
                          ([[1, 2]], 1, HALF), ([[1, 2]], None), ([[1, 2]], 10 ** 30)):
            self.tells("#VALUE", "SORT", *arguments)
        self.tells("#NA", "SORT", [[1]], "x", "#NA")
        self.tells("#VALUE", "SORT", [[1]], 1, "x")

    def test_unique(self):
        rows = [[1, "a"], [1, "A"], ["1", "a"], [None, "a"], [None, "A"], [True, "a"], ["#NA", "a"], ["#NA", "a"], [1, "b"]]
        self.tells([[1, "a"], ["1", "a"], [None, "a"], [True, "a"], ["#NA", "a"], [1, "b"]], "UNIQUE", rows)
        self.tells([[1, 2]], "UNIQUE", [[1, 2, 1]], True)
        self.tells([[1, 2, 1]], "UNIQUE", [[1, 2, 1]])
        self.tells([["x", 1]], "UNIQUE", [["x", 1, "X"]], 1)
        self.tells([[0], [False], [""], [None]], "UNIQUE", [[0], [False], [""], [None], [0], [None], [""]])
        self.tells([["a"]], "UNIQUE", [["a"], ["A"]])
        every = [[True], [False], [None], ["#NA"], ["#DIV"], [""], ["true"], [1], [HALF], [2]]
        self.tells(every, "UNIQUE", every + every)
        self.tells("#VALUE", "UNIQUE", [[1]], "x")
        many = [[number % 100] for number in range(10000)]
        self.assertEqual(result("UNIQUE", many).height, 100)

    def test_filter(self):
        grid = [[1, 2], [3, 4], [5, 6]]
        for told, arguments in (
                ([[1, 2], [5, 6]], (grid, [[True], [0], ["TRUE"]])), ([[2], [4], [6]], (grid, [[None, 7]])),
                ("#NA", (grid, [[0], [0], [0]])), ("none", (grid, [[0], [0], [0]], "none")), (None, (grid, [[0, 0]], None)),
                ([["x", "y"]], (grid, [[0, 0]], [["x", "y"]])), ("#VALUE", (grid, [[1, 1, 1]])), ("#VALUE", (grid, 1)),
                ("#VALUE", (grid, [[1, 1], [1, 1], [1, 1]])), ("#DIV", (grid, [["#DIV"], ["x"], ["#NA"]])),
                ("#VALUE", (grid, [["x"], ["#NA"], [1]])), ("#NA", ("#NA", "#DIV")), ("#DIV", (grid, "#DIV")), ([[7]], (7, True)),
                ([["#NA"]], ([["#NA"]], 1)), ([[5, 6]], (grid, [[0], [0], [1]], "#REF")),
                ("#REF", (grid, [[0], [0], [0]], "#REF")),
                ([[1, 2, 3]], ([[1, 2, 3]], 1)), ([[1, 3]], ([[1, 2, 3]], [[1, 0, 1]]))):
            self.tells(told, "FILTER", *arguments)

    def test_sequence(self):
        for told, arguments in (
                ([[1], [2], [3]], (3,)), ([[1, 2], [3, 4]], (2, 2)), ([[5, 8]], (1, 2, 5, 3)), ([[HALF], [0]], (2, 1, HALF, -HALF)),
                ([[1]], (1,)), ([[0], [0]], (2, 1, None, None)), ("#VALUE", (0,)), ("#VALUE", (1, 0)), ("#VALUE", (1, None)),
                ("#VALUE", (-1, 20000)), ("#NUM", (10001,)), ("#NUM", (101, 100)), ("#NUM", (10 ** 30, 10 ** 30)),
                ("#NA", (1, "x", "#NA")), ("#VALUE", ("x",)), ([[1], [2]], (Ratio(5, 2),)), ([[7, 7]], ("1", "2", 7, False))):
            self.tells(told, "SEQUENCE", *arguments)
        self.assertEqual(result("SEQUENCE", 100, 100).value_at(100, 100), Ratio(10000))
        self.assertEqual(result("SEQUENCE", 1, 10000).value_at(1, 10000), Ratio(10000))
        self.assertEqual(result("SEQUENCE", 10000).value_at(10000, 1), Ratio(10000))
        self.tells("#NUM", "SEQUENCE", 1, 10001)
        self.fails(TooHigh, {"most": 3000}, result, "SEQUENCE", 2, 1, 10 ** 3000 - 1, 1)

    def test_corners_are_lost(self):
        grid = Grid([["b"], ["a"]], (3, 4))
        for name, more in (("SORT", ()), ("UNIQUE", ()), ("FILTER", (thing([[True], [True]]),)), ("TRANSPOSE", ()),
                           ("INDEX", (Ratio(0),)), ("XLOOKUP", (thing([["b"], ["a"]]),))):
            told = call(name, [grid] + list(more)) if name != "XLOOKUP" else call(name, ["z", grid, grid, grid])
            self.assertIsNone(told.corner, name)
        self.assertTrue(alike(call("SORT", [grid]), thing([["a"], ["b"]])))
        self.assertEqual(call("INDEX", [grid, Ratio(2)]), "a")
        self.assertEqual(call("FILTER", [grid, Fault("NA")]), Fault("NA"))
