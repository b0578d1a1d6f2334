"""[1], [57], [58], [137]: the whole program together."""

import random

from allinputs.alike import alike_places, parts_from
from allinputs.bookfile import book_text, read_book
from allinputs.desk import Desk
from allinputs.ends import least
from allinputs.errors import Broken, SheetError
from allinputs.exchange import area_rows, put_rows
from allinputs.filters import kept
from allinputs.functions import call
from allinputs.going import Going
from allinputs.goals import goal
from allinputs.grids import Grid
from allinputs.pivots import Pivot, changes
from allinputs.promises import holds
from allinputs.ratios import Ratio
from allinputs.rests import rests
from allinputs.rowtexts import read_rows, rows_text
from allinputs.told import Told
from allinputs.values import same
from allinputs.working import fresh_values, last_worked
from tests.books import BookCase, book_of
from tests.rows import RowCase, row_text

TEXT = (
    "sheet Loan\nA1 1000\nB1 =A1*(1+rate)\nC1 =IF(B1>1200,B1-A1,0)\nD1 =SUM(A2:A9)*A1\nE1 =1/(A1*A1-2)\n"
    "F1 =IFERROR(E1,Rows!A1)\nA2 =SEQUENCE(3)\nsheet Rows\nA1 =Loan!B1&\"\"\nB1 =ROUND(Loan!A1/7,2)\nB2 =MEDIAN(Loan!A1,5,Loan!C1)\n"
    "name rate 0.25\n"
)


class Whole(RowCase):
    def told_rows(self, book, free="A1", low=-3000, high=3000):
        """The told rows, or errors, of all cells that hold something."""
        told = Told(book, free, low, high)
        rows = {}
        for place in book.holding():
            try:
                rows[place] = row_text(told.pieces(place))
            except SheetError as error:
                rows[place] = type(error).__name__
        return rows

    def test_read_edited_told_taken_back_and_written(self):
        book = read_book(TEXT)
        self.assertEqual(book_text(book), TEXT)
        before, values = self.told_rows(book), fresh_values(book)
        self.assertIn("NotTold", before["Rows!A1"] + before["Rows!B1"])
        desk = Desk(book)
        desk.keep("B1 at least 0 for A1 from 0 to 100")
        desk.keep("C1 at least 0 for A1 from 5000 to 6000")
        deeds = [("insert_rows", "Loan", 1, 2), ("rename_sheet", "Rows", "Lines"), ("define", "rate", "0.5"), ("move_cells", "Loan!A3", "Lines!H1"),
                 ("put", "Loan!C3", "=MAX(B3-Lines!H1,0)"), ("put_rows", "Loan!A9", [["x", "=A9"], ["1"]])]
        for deed in deeds[:2]:
            desk.do(deed)
        desk.attempt(deeds[2:])
        self.assertEqual(desk.promises(), ("Loan!B3 at least 0 for Lines!H1 from 0 to 100",
                                           "Loan!C3 at least 0 for Lines!H1 from 5000 to 6000"))
        for promise in desk.promises():
            self.assertTrue(holds(desk.current(), promise))
        edited = desk.current()
        told = Told(edited, "Lines!H1", 0, 10)
        self.row(told, "B3", "0: 0 | (0,10): 3x/2 | 10: 15")
        self.row(told, "C3", "0: 0 | (0,10): x/2 | 10: 5")
        again = read_book(book_text(edited))
        self.assertTrue(again == edited)
        self.assertEqual(self.told_rows(again, "Lines!H1"), self.told_rows(edited, "Lines!H1"))
        for _ in range(3):
            desk.undo()
        taken = desk.current()
        self.assertTrue(taken == book)
        self.assertEqual(book_text(taken), TEXT)
        self.assertEqual(self.told_rows(taken), before)
        self.assertTrue(all(same(value, values[place]) for place, value in fresh_values(taken).items()))
        for _ in range(3):
            desk.redo()
        self.assertEqual(book_text(desk.current()), book_text(edited))

    def test_told_rows_follow_edits(self):
        # [57]: what is kept has the same value at its new place, for each number in the free cell.
        cells = {"A1": "3", "B2": "=A1*A1-2", "C3": "=IF(B2>0,1/B2,$A$1)", "B5": "=SUM(B2:C3)", "C5": "=MAX(A1,B2)*rate"}
        places = {"A1": 0, "B2": 1, "C3": 2, "B5": 3, "C5": 4}
        for deed, fresh in (
            (("insert_rows", "Sheet1", 2, 3), "A1 B5 C6 B8 C8"), (("insert_columns", "Sheet1", 1, 1), "B1 C2 D3 C5 D5"),
            (("delete_rows", "Sheet1", 4, 1), "A1 B2 C3 B4 C4"), (("move_cells", "A1:C3", "H7"), "H7 I8 J9 B5 C5"),
            (("move_cells", "A1", "Z9"), "Z9 B2 C3 B5 C5"), (("open_cells", "A5:F6", True), "A1 B2 C3 B7 C7"),
            (("rename_sheet", "Sheet1", "Other"), "A1 B2 C3 B5 C5"), (("close_cells", "A4:C4", True), "A1 B2 C3 B4 C4"),
        ):
            book = book_of(cells, names={"rate": "A1+1"})
            desk = Desk(book)
            desk.do(deed)
            places = fresh.split()
            one, other = Told(book, "A1"), Told(desk.current(), places[0])
            for old, new in zip(cells, places):
                self.assertIsNone(parts_from(one, other, old, new), (deed, old))

    def test_all_inputs_against_single_ones(self):
        book = read_book(TEXT)
        chance = random.Random(2)
        cells = [place for place in book.holding() if place not in ("Rows!A1", "Loan!F1", "Rows!B1")] + ["A3", "A4"]
        self.agrees(book, "A1", cells, [Ratio(chance.randint(-9000, 9000), chance.choice([1, 3, 7])) for _ in range(15)], -9000, 9000)

    def test_rows_from_a_text_to_a_pivot(self):
        rows = read_rows("name;many;cost\n\"ann\";2;1.5\nBob;1;\"3\"\nANN;5;0\nbob;;=1/0\n", ";")
        book = book_of({})
        put_rows(book, "A1", rows)
        self.values(book, {"B2": 2, "C2": Ratio(3, 2), "C3": 3, "C5": "#DIV", "B5": None})
        grid = Grid([[book.value_of(f"{column}{row}") for column in "ABC"] for row in range(2, 6)])
        self.assertEqual(kept(grid, [(1, "ann"), (2, ">2")]), [3])
        pivot = Pivot(grid, [1], [], 2, "SUM")
        self.assertEqual([str(value) for value in pivot.table().one_column(2).cells()[1:]], ["7", "1", "8"])
        self.assertEqual(changes(pivot, Pivot(grid, [1], [], 2, "COUNT")), [(("ann",), (), Ratio(7), Ratio(2))])
        text = rows_text(area_rows(book, "A2:C5"), "|")
        self.assertEqual(text, "ann|2|1.5\nBob|1|3\nANN|5|0\nbob||=#DIV\n")
        put_rows(book, "E2", read_rows(text, "|"))
        for row in range(2, 6):
            for column, other in zip("ABC", "EFG"):
                self.assertTrue(same(book.value_of(f"{column}{row}"), book.value_of(f"{other}{row}")))

    def test_rings_told_and_gone_round(self):
        book = read_book("sheet Ring\nA1 =(B1+5/B1)/2\nB1 =A1\nC1 =A1*A1\n")
        found = rests(book, "B1", 0)
        self.assertEqual(found[0].digits(9), "2.236067977")
        going = Going(book, {"A1": 2, "B1": 2})
        going.go(3)
        value = going.now_at("B1")
        self.assertEqual(call("ROUND", [value, Ratio(6)]), Ratio(2236068, 10 ** 6))
        self.assertEqual(going.now_at("C1"), value * value)

    def test_a_broken_promise_tells_where(self):
        desk = Desk(book_of({"B1": "=A1*A1-4*A1+5"}))
        desk.keep("B1 at least 1 for A1")
        with self.assertRaises(Broken) as caught:
            desk.do(("put", "B1", "=A1*A1-4*A1+4.99"))
        told = Told(desk.current(), "A1")
        self.assertEqual(least(told, "B1"), (Ratio(1), Ratio(2), True))
        self.assertEqual(goal(told, "B1", 1), (Ratio(2),))
        self.assertLess(call("ABS", [caught.exception.where - 2]).compare(Ratio(1, 10)), 1)


class Sizes(BookCase):
    def test_a_book_and_a_desk_of_the_greatest_size(self):
        cells = {}
        for row in range(1, 251):
            cells[f"A{row}"] = str(row)
            cells[f"B{row}"] = f"=A{row}*2+IF(A{row}>100,A{row},1)"
            cells[f"C{row}"] = f"=B{row}+C{row - 1}" if row > 1 else "=B1"
            cells[f"D{row}"] = f"=MAX(C{row},B{row},100)"
            for column, formula in (("F", f"A{row}+1"), ("G", f"F{row}*C{row}"), ("H", f"SUM(A{row}:G{row})"), ("I", f"H{row}>5")):
                cells[f"{column}{row}"] = "=" + formula
        book = book_of({})
        put_rows(book, "A1", [[cells.get(f"{column}{row}", "") for column in "ABCDEFGHI"] for row in range(1, 251)])
        self.assertEqual(len(book.holding()), 2000)
        desk = Desk(book)
        for row in range(1, 31):
            desk.keep(f"D{row * 8} at least 100 for A{row * 8} from 0 to 1000")
        for number in range(60):
            desk.do(("put", f"A{number + 1}", str(number + 2)))
        self.assertEqual(len(desk.promises()), 30)
        told = Told(desk.current(), "A1", 0, 200)
        self.assertEqual(len(told.pieces("H250")), 5)
        self.assertEqual(len(alike_places(told, told)), 2000)
        self.assertEqual(len(desk.changed_by([("put", "B240", "=A240")], "A1")), 56)
        for _ in range(60):
            desk.undo()
        self.assertTrue(desk.current() == book)
        self.assertEqual(last_worked(desk.current()), last_worked(book))

    def test_long_rings(self):
        book = book_of({f"A{row}": f"=MOD(A{row % 500 + 1}+1,7)" for row in range(1, 501)})
        going = Going(book, {"A1": 3})
        going.go(20)
        self.assertEqual(str(going.now_at("A500")), str(going.course("A500", 20)[-1]))
        self.assertEqual(len(rests(book_of({"A1": "=A2+1", "A2": "=A1/2"}), "A2")), 1)
