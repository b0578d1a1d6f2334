"""[2], [9], [93]: grids."""

from allinputs.grids import Grid, grid_of, is_line
from allinputs.ratios import Ratio
from allinputs.values import Fault
from tests.helper import NO_INTEGERS, ROOT, X, Case, root_member, root_strand
from tests.test_values import NO_VALUES, VALUES

ROWS = [(Ratio(1), "a", None), (True, Fault("NA"), Ratio(-1, 2))]


class Grids(Case):
    def setUp(self):
        self.grid = Grid(ROWS, (4, 7))

    def test_attributes(self):
        grid = self.grid
        self.assertEqual((grid.rows, grid.height, grid.width, grid.corner), (tuple(ROWS), 2, 3, (4, 7)))
        self.assertIs(type(grid.rows), tuple)
        self.assertIs(type(grid.rows[0]), tuple)
        self.assertIsNone(Grid(rows=ROWS, corner=None).corner)
        self.assertIsNone(Grid([["x"]]).corner)
        self.assertEqual(Grid((["x"], ("y",)), [1, 20000000]).corner, (1, 20000000))
        self.assertEqual(Grid((["x"], ("y",))).rows, (("x",), ("y",)))
        self.assertIs(type(Grid([["x"]], [1, 1]).corner), tuple)

    def test_every_value_may_stand_in_it(self):
        values = [value for value, _ in VALUES]
        grid = Grid([values])
        self.assertEqual([id(value) for value in grid.rows[0]], [id(value) for value in values])

    def test_rows_that_change_afterwards(self):
        rows, corner = [["a", "b"], ["c", "d"]], [1, 2]
        grid = Grid(rows, corner)
        rows[0][0] = "z"
        rows.append(["e"])
        corner[0] = 5
        self.assertEqual((grid.rows, grid.height, grid.corner), ((("a", "b"), ("c", "d")), 2, (1, 2)))
        self.assertEqual(rows, [["z", "b"], ["c", "d"], ["e"]])

    def test_wrong_rows(self):
        for value in (None, 1, "ab", {}, X, ROOT, self.grid, True, Ratio(1)):
            self.bad(value, Grid, value)
            self.bad(value, Grid, value, "corner")
        for row in ("a", None, 1, (), [], {}, Ratio(1), ROOT, self.grid):
            self.bad(row, Grid, [("a",), row, "later"])
        for value in NO_VALUES:
            row = ("a", value)
            self.bad(row, Grid, [("a", "b"), row, ()])
            row = [value]
            self.bad(row, Grid, (row,))
        for rows in ([], (), [("a",), ("a", "b")], [("a", "b"), ("a",)], [("a", "b"), ("a", "b"), ("a",)]):
            self.bad(rows, Grid, rows)
            self.bad(rows, Grid, rows, "corner")
        late = (1,)
        self.bad(late, Grid, [("a", "b"), ("a",), late])

    def test_how_many_values(self):
        self.assertEqual(Grid([("a",) * 10000]).width, 10000)
        self.assertEqual(Grid([("a",)] * 10000).height, 10000)
        self.assertEqual(len(Grid([(None,) * 100] * 100).cells()), 10000)
        for rows in ([("a",) * 10001], [("a",)] * 10001, [(None,) * 100] * 101, [("a",) * 5001] * 2):
            self.bad(rows, Grid, rows)

    def test_wrong_corners(self):
        for value in (1, "ab", (1,), (1, 2, 3), (0, 1), (1, 0), (-1, 1), (1, True), (True, 1), ("a", 1), (1.5, 1), {}, (),
                      (Ratio(1), 1), (1, None), False, 0, self.grid):
            self.bad(value, Grid, ROWS, value)

    def test_equality(self):
        self.assertTrue(self.grid == Grid([list(row) for row in ROWS]))
        self.assertTrue(self.grid == Grid(ROWS, (9, 9)))
        self.assertFalse(self.grid == Grid(ROWS[:1]))
        self.assertFalse(Grid([("a",)]) == Grid([("A",)]))
        self.assertFalse(Grid([(Ratio(1),)]) == Grid([(True,)]))
        self.assertFalse(Grid([("a", "b")]) == Grid([("a",), ("b",)]))
        self.assertFalse(Grid([(None,)]) == Grid([("",)]))
        self.assertTrue(Grid([(root_member(), root_strand())]) == Grid([(root_member(), root_strand())]))
        for other in (None, ROWS, tuple(ROWS), 1, "a"):
            self.assertFalse(self.grid == other)
        self.assertFalse(Grid([("a",)]) == "a")

    def test_value_at(self):
        for row in (1, 2):
            for column in (1, 2, 3):
                self.assertIs(self.grid.value_at(row, column), ROWS[row - 1][column - 1])
        self.assertEqual(self.grid.value_at(column=2, row=1), "a")
        for value in NO_INTEGERS + (0, 3, -1):
            self.bad(value, self.grid.value_at, value, 1)
            self.bad(value, self.grid.value_at, value, 9)
        for value in NO_INTEGERS + (0, 4, -1):
            self.bad(value, self.grid.value_at, 1, value)

    def test_rows_and_columns(self):
        self.assertEqual(self.grid.one_row(2).rows, (ROWS[1],))
        self.assertEqual(self.grid.one_row(row=1).rows, (ROWS[0],))
        self.assertEqual(self.grid.one_column(2).rows, (("a",), (Fault("NA"),)))
        self.assertEqual(self.grid.one_column(column=3).rows, ((None,), (Ratio(-1, 2),)))
        for value in NO_INTEGERS + (0, 3, -1):
            self.bad(value, self.grid.one_row, value)
        for value in NO_INTEGERS + (0, 4, -1):
            self.bad(value, self.grid.one_column, value)

    def test_cells_and_turned(self):
        self.assertEqual(self.grid.cells(), ROWS[0] + ROWS[1])
        self.assertIs(type(self.grid.cells()), tuple)
        turned = self.grid.turned()
        self.assertEqual(turned.rows, ((Ratio(1), True), ("a", Fault("NA")), (None, Ratio(-1, 2))))
        self.assertEqual((turned.height, turned.width), (3, 2))
        self.assertEqual(turned.turned(), self.grid)

    def test_corners_of_what_is_returned(self):
        for grid in (self.grid.one_row(1), self.grid.one_column(1), self.grid.turned()):
            self.assertIs(type(grid), Grid)
            self.assertIsNone(grid.corner)
        self.assertEqual(self.grid.corner, (4, 7))

    def test_grid_of(self):
        self.assertIs(grid_of(self.grid), self.grid)
        for value, _ in VALUES:
            grid = grid_of(value)
            self.assertEqual((grid.height, grid.width, grid.corner), (1, 1, None))
            self.assertIs(grid.rows[0][0], value)
        self.assertEqual(grid_of(thing=True), Grid([[True]]))
        for thing in NO_VALUES:
            if not isinstance(thing, Grid):
                self.bad(thing, grid_of, thing)

    def test_is_line(self):
        for rows, expected in (([("a",)], True), ([("a", "b")], True), ([("a",), ("b",)], True),
                               ([("a", "b"), ("c", "d")], False)):
            self.assertIs(is_line(Grid(rows)), expected)
        self.assertIs(is_line(grid=self.grid), False)
        for value in (None, "a", 1, [("a",)], Ratio(1), True):
            self.bad(value, is_line, value)
