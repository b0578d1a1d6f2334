"""[2], [39], [110]: arrays, and formulas worked cell by cell."""

from allinputs.arrays import part_at, stretched
from allinputs.ratios import Ratio
from allinputs.values import Fault
from tests.books import BookCase, book_of
from tests.calls import thing
from tests.helper import NO_INTEGERS, Case

ROW, COLUMN, TABLE, ONE = [thing(told) for told in ([["a", "b", "c"]], [["a"], ["b"]], [["a", "b"], ["c", "d"]], [["x"]])]


class Places(Case):
    def test_stretched(self):
        for grids, size in (([ROW], (1, 3)), ([ROW, COLUMN], (2, 3)), ([ONE, TABLE], (2, 2)), ([ONE], (1, 1)),
                            ((TABLE, ROW, COLUMN), (2, 3))):
            self.assertEqual(stretched(grids), size)
        self.assertEqual(stretched(grids=[ONE]), (1, 1))
        for value in (None, ROW, 1, "x", {}):
            self.bad(value, stretched, value)
        for value in (None, "x", [["a"]], 1):
            self.bad(value, stretched, [ROW, value, 7])
        for value in ([], ()):
            self.bad(value, stretched, value)

    def test_part_at(self):
        for grid, row, column, told in ((ROW, 9, 2, "b"), (ROW, 1, 4, Fault("NA")), (COLUMN, 2, 9, "b"),
                                        (COLUMN, 3, 1, Fault("NA")), (TABLE, 2, 1, "c"), (TABLE, 3, 1, Fault("NA")),
                                        (TABLE, 1, 3, Fault("NA")), (ONE, 10 ** 9, 10 ** 9, "x")):
            self.assertEqual(part_at(grid, row, column), told)
        self.assertEqual(part_at(grid=ROW, row=1, column=1), "a")
        for value in (None, "x", [["a"]], 1):
            self.bad(value, part_at, value, "x", 0)
        for value in NO_INTEGERS + (0, -1):
            self.bad(value, part_at, ROW, value, "x")
            self.bad(value, part_at, ROW, 1, value)


class CellByCell(BookCase):
    def check(self, text, rows, cells=None):
        """A formula in H1 spills these rows."""
        book = book_of(dict(cells or {}, H1=text))
        told = {}
        for down, row in enumerate(rows):
            for right, value in enumerate(row):
                told["HIJKLMN"[right] + str(down + 1)] = value
        self.values(book, told)
        self.assertEqual(book.value_of("HIJKLMNO"[len(rows[0])] + "1"), None)
        self.assertEqual(book.value_of("H" + str(len(rows) + 1)), None)

    def test_signs(self):
        self.check("={1,2}+{10;20}", [[11, 12], [21, 22]])
        self.check("={1,2,3}*{1,2}", [[1, 4, "#NA"]])
        self.check("={1;2;3}+{1,2;3,4}", [[2, 3], [5, 6], ["#NA", "#NA"]])
        self.check("=-{1,\"x\";TRUE,#NA}", [[-1, "#VALUE"], [-1, "#NA"]])
        self.check("=+{1,\"x\"}", [[1, "x"]])
        self.check("={1}+{2}", [[3]])
        self.check("=A1:B2&\"!\"", [["a!", "1!"], ["!", "TRUE!"]], {"A1": "a", "B1": "1", "B2": "TRUE"})
        self.check("=A1:A3>1", [[False], [True], [False]], {"A1": "1", "A2": "5"})
        self.check("={1,2}+#NA", [["#NA", "#NA"]])
        self.check("=A1+A2", [[3]], {"A1": "1", "A2": "2"})

    def test_calls(self):
        self.check("=LEFT({\"abc\",\"xyz\"},{1;2})", [["a", "x"], ["ab", "xy"]])
        self.check("=ABS({-1,2})", [[1, 2]])
        self.check("=ROUND({1.5,2.25},{0,1,2})", [[2, Ratio(23, 10), "#NA"]])
        self.check("=IF({TRUE,FALSE},{1;2},9)", [[1, 9], [2, 9]])
        self.check("=IF({TRUE,FALSE},A1:B1,\"n\")", [[1, "n"]], {"A1": "1", "B1": "2"})
        self.check("=IFERROR({1,#NA},0)", [[1, 0]])
        # A fault of an argument that is needed at no place has no influence, but it is worked.
        self.check("=IF({TRUE,TRUE},1,1/0)", [[1, 1]])
        self.check("=SWITCH({1,2,3},1,\"a\",2,\"b\",\"c\")", [["a", "b", "c"]])
        # What stands at wide places is the same for each place.
        self.check("=COUNTIF(A1:A3,{1,2})", [[2, 1]], {"A1": "1", "A2": "2", "A3": "1"})
        self.check("=MATCH({3,1},A1:A3,0)", [["#NA", 1]], {"A1": "1", "A2": "2", "A3": "1"})
        self.check("=SUM({1,2})", [[3]])
        self.check("=SUM({1,2}*{3,4})", [[11]])
        # A grid of one value at a single place counts as this value.
        self.check("=LEFT({\"abc\"},A1)", [["ab"]], {"A1": "2"})
        self.check("=IF({TRUE},A1:B1)", [[1, 2]], {"A1": "1", "B1": "2"})

    def test_grids_told_at_a_place(self):
        self.check("=INDEX({1,2;3,4},{1;2},1)", [[1], [3]])
        self.check("=INDEX({1,2;3,4},{1;2})", [["#VALUE"], ["#VALUE"]])
        self.check("=SEQUENCE({1,2})", [[1, "#VALUE"]])
        self.check("=IF({1;0},SORT({5;6}),7)", [[5], [7]])

    def test_too_many_places(self):
        book = book_of({"A1": "=SUM(SEQUENCE(101)*SEQUENCE(1,100))", "A2": "=ROWS(SEQUENCE(101)*SEQUENCE(1,100))",
                        "A3": "=COUNT(SEQUENCE(100)*SEQUENCE(1,100))",
                        "A4": "=COUNT(LEFT(SEQUENCE(101),SEQUENCE(1,100)))"})
        self.values(book, {"A1": "#NUM", "A2": "#NUM", "A3": 10000, "A4": 0})
