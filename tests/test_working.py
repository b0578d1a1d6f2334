"""[2], [40], [46], [47], [48], [113], [114]: formulas that are worked, spills, and what changes touch."""

from allinputs.book import Book
from allinputs.errors import TooHigh
from allinputs.filling import fill_cells
from allinputs.moving import copy_cells, move_cells
from allinputs.ratios import Ratio
from allinputs.sorting import sort_rows
from allinputs.spills import spill_area, spilled_from
from allinputs.structure import close_cells, delete_columns, delete_rows, insert_columns, insert_rows, open_cells
from allinputs.values import Fault
from allinputs.working import fresh_values, last_worked
from tests.books import BookCase, as_told, book_of

HIGH = "=10^64^50"


class References(BookCase):
    def test_each_sort(self):
        book = book_of({"A1": "1", "A2": "x", "B1": "TRUE", "Tax!A1": "7", "D1": "=A1", "D2": "=$A$2", "D3": "=Z9", "D4": "=tax!A1",
                        "D5": "=none!A1", "D6": "=SUM(none!A:A)", "D7": "=SUM(A1:B2)", "D8": "=SUM(A1)", "D9": "=SUM(A2,B1)",
                        "E1": "=ROW(B7)", "E2": "=COLUMN(tax!C3:D4)", "E4": "=ROWS(A1:A10000)", "E5": "=ROWS(A1:A10001)",
                        "E6": "=COUNT(G200:DB299)", "E7": "=ROW()*100+COLUMN()", "E8": "=A1#", "E9": "=SUM(none!A1#)",
                        "F1": "=ISBLANK(Z9)", "F4": "=#DIV", "F5": "=F4+#NA", "F6": "=\"a\"&TRUE", "F7": "=A1:A1"}, sheets=("Tax",))
        self.values(book, {"D1": 1, "D2": "x", "D3": 0, "D4": 7, "D5": "#REF", "D6": "#REF", "D7": 1, "D8": 1, "D9": 0, "E1": 7,
                           "E2": 3, "E3": None, "F2": 4, "E4": 10000, "E5": "#NUM", "E6": 0, "E7": 705, "E8": 1, "E9": "#REF",
                           "F1": True, "F4": "#DIV", "F5": "#DIV", "F6": "aTRUE", "F7": 1})

    def test_whole_columns_and_rows(self):
        book = book_of({"A1": "1", "A7": "2", "B3": "=ROWS(A:A)", "D1": "=ROWS(A:A)", "D2": "=ROWS(C:C)", "D3": "=ROWS(Z:Z)",
                        "D4": "=ROWS(A:A)+ROWS(Z:Z)", "D5": "=ROWS(A:D)", "D6": "=SUM(A:A)", "F1": "=COLUMNS(7:7)",
                        "G2": "=COLUMNS(1:1)*10+COLUMNS(9:9)", "F3": "=COLUMNS(9:9)"})
        # D1 to D6 see more whole columns than they are worked by; those with D among them are in a ring.
        self.values(book, {"B3": 7, "D1": 7, "D2": 1, "D3": 1, "D4": 14, "D5": "#RING", "D6": 3, "F1": 1, "G2": 66, "F3": 1})
        book.put("A9", "'")
        self.values(book, {"B3": 9, "D1": 9, "F3": 1})
        # Up to the last row that a spill has.
        book = book_of({"A1": "=SEQUENCE(5)", "C1": "=ROWS(A:A)", "C2": "=SUM(A:B)", "C3": "=ROWS(rng)", "B4": "9"},
                       {"rng": "B:B"})
        self.values(book, {"C1": 5, "C2": 24, "C3": 4})
        book.put("A1", "=SEQUENCE(B1)")
        self.values(book, {"A1": "#VALUE", "C1": 1})
        # Of several whole columns with too many cells.
        book = book_of({"A5000": "1", "D1": "=ROWS(A:B)", "D2": "=ROWS(A:C)"})
        self.values(book, {"D1": 5000, "D2": "#NUM"})
        # A formula on another sheet, and one whose whole columns lie on two sheets.
        book = book_of({"A3": "1", "Tax!A9": "1", "Tax!B1": "=ROWS(Sheet1!A:A)*100+ROWS(A:A)"}, sheets=("Tax",))
        self.values(book, {"Tax!B1": 309})

    def test_ends_of_whole_columns_and_rows(self):
        # Other areas that the formula sees do not count, nor do other sheets, nor what spills beside them.
        book = book_of({"A2": "1", "A4": "1", "A3": "1", "B9": "1", "C1": "={1;2;3;4;5;6;7}", "E1": "=ROWS(A:A)+SUM(B1:B99)",
                        "F1": "=ROWS(A:A)*100+ROWS(Tax!A:A)", "G1": "=ROWS(C:C)+SUM(B1:B99)", "Tax!A1": "={1;2;3;4;5;6}",
                        "Tax!B1": "=ROWS(sheet1!A:A)"}, sheets=("Tax",))
        self.values(book, {"E1": 5, "F1": 406, "G1": 8, "Tax!B1": 4})
        book = book_of({"B20": "1", "D20": "1", "C20": "1", "I21": "1", "A22": "={1,2,3,4,5,6,7}", "A1": "=COLUMNS(20:20)+SUM(A21:Z21)",
                        "A2": "=COLUMNS(20:21)", "A3": "=COLUMNS(22:22)", "A4": "=COLUMNS(20:20)*100+COLUMNS(Tax!9:9)",
                        "A5": "=COLUMNS(19:21)", "A6": "=COLUMNS(20:22)", "A7": "=COLUMNS(21:22)", "A8": "=COLUMNS(22:30)",
                        "A9": "=COLUMNS(18:20)", "Tax!A9": "={1,2,3,4,5,6}"}, sheets=("Tax",))
        self.values(book, {"A1": 5, "A2": 9, "A3": 7, "A4": 406, "A5": 9, "A6": 9, "A7": 9, "A8": 7, "A9": 4})
        # The longest one of several spills counts.
        book = book_of({"A1": "={1;2;3;4;5}", "A7": "={1;2}", "B1": "={1;2;3}", "D1": "=ROWS(A:A)", "D2": "=ROWS(A:B)",
                        "D3": "=ROWS(B:B)", "D4": "=ROWS(C:C)"})
        self.values(book, {"D1": 8, "D2": 8, "D3": 3, "D4": 1})
        book = book_of({"A7": "={1;2}", "B1": "={1;2;3}", "D1": "=ROWS(A:B)"})
        book.put("A1", "={1;2;3;4}")
        self.values(book, {"D1": 8})

    def test_one_cell_at_a_single_place_is_a_value(self):
        book = book_of({"A1": "3", "B1": "=SUM(A1&\"5\")", "B2": "=SUM({\"3\"}&\"5\")", "B3": "=SUM(A1,\"4\")", "B4": "=SUM({\"4\"})",
                        "B5": "=SUM(A1=3)", "B6": "=AND(A1&\"\",TRUE)", "B7": "=COUNT(-A1,-\"x\")", "B8": "=SUM(+A1&1)",
                        "B9": "=SUM(IF(TRUE,{\"4\"}))"})
        self.values(book, {"B1": 35, "B2": 35, "B3": 7, "B4": 0, "B5": 1, "B6": "#VALUE", "B7": 1, "B8": 31, "B9": 0})

    def test_names_of_names(self):
        # Each name is worked once for a formula, however often it is written.
        names = {"n0.x": "A1+ROW()"}
        names.update({f"n{at}.x": f"n{at - 1}.x+n{at - 1}.x" for at in range(1, 40)})
        book = book_of({"A1": "1", "B1": "=n39.x", "B2": "=n39.x-n38.x", "B3": "=n1.x*{1,2}"}, names)
        self.values(book, {"B1": 2 * 2 ** 39, "B2": 3 * 2 ** 38, "B3": 8, "C3": 16})
        book.put("A1", "2")
        self.worked(book, "B1 B2 B3")
        self.values(book, {"B1": 3 * 2 ** 39})

    def test_calls(self):
        book = book_of({"A1": "=FOO(1/0)", "A2": "=ABS(1,2)", "A3": "=ABS()", "A4": "=SUM(,)", "A5": "=IF(FALSE,1,)", "A6": "=NA()",
                        "A7": "=SUM()", "A8": "=IFS(TRUE,1,FALSE)", "A9": "=foo.bar(1)", "B1": "=COUNT(,)", "B2": "=IF(TRUE,)",
                        "B3": "=LEFT(\"abc\",)", "B4": "=IF(A6,1,2)", "B5": "=IFERROR(FOO(1),5)", "B6": "=IF(TRUE,1,10^64^50)"})
        self.values(book, {"A1": "#NAME", "A2": "#VALUE", "A3": "#VALUE", "A4": 0, "A5": 0, "A6": "#NA", "A7": "#VALUE",
                           "A8": "#VALUE", "A9": "#NAME", "B1": 2, "B2": 0, "B3": "", "B4": "#NA", "B5": 5, "B6": 1})

    def test_values_that_are_none(self):
        book = book_of({"A1": HIGH, "A2": "=A1+1", "A3": "=IF(TRUE,5,A2)", "A4": "=IFERROR(A1,0)", "B1": "=SEQUENCE(2)*10^64^50",
                        "C1": "=B2", "C2": "=ISBLANK(C9)", "D1": "=D2+A1", "D2": "=D1", "E1": "=E3", "E3": "=A1:A2"})
        for place in ("A1", "A2", "A3", "A4", "B1", "B2", "C1", "E1", "E3", "E4"):
            for call in (lambda place: book.value_of(place), lambda place: spill_area(book, place),
                         lambda place: spilled_from(book, place)):
                self.fails(TooHigh, {"most": 3000}, call, place)
        self.values(book, {"B3": None, "C2": True, "D1": "#RING", "D2": "#RING"})
        self.assertEqual(list(fresh_values(book)), ["Sheet1!D1", "Sheet1!C2", "Sheet1!D2"])
        book.put("A1", "1")
        self.worked(book, "D1 D2 A2 A3 E3 E1 A4")
        self.values(book, {"A2": 2, "A3": 5, "A4": 1, "E1": 1, "E4": 2})
        self.fails(TooHigh, {"most": 3000}, book.value_of, "C1")
        book.put("A1", HIGH)
        self.fails(TooHigh, {"most": 3000}, book.value_of, "E4")
        # What a cell holds in the reach of a formula without a value stays its value.
        book = book_of({"A1": "=SEQUENCE(3)*10^64^50", "A2": "5", "B3": "x"})
        self.values(book, {"A2": 5, "B3": "x", "B1": None})
        for place in ("A1", "A3"):
            self.fails(TooHigh, {"most": 3000}, book.value_of, place)
        # A number of just so many digits has a value.
        book = book_of({"A1": "=10^60^49*10^59*(10^1-0.1^0)", "A2": "=A1+A1", "A3": "=A1*1"})
        self.assertEqual(book.value_of("A1"), Ratio(9 * 10 ** 2999))
        self.fails(TooHigh, {"most": 3000}, book.value_of, "A2")
        self.assertEqual(book.value_of("A3"), Ratio(9 * 10 ** 2999))


class Spills(BookCase):
    def test_who_spills(self):
        book = book_of({"A1": "={1,2;3,4}", "D1": "=Z1:Z2", "F1": "={5}"})
        self.values(book, {"A1": 1, "B1": 2, "A2": 3, "B2": 4, "D1": 0, "D2": 0, "F1": 5, "F2": None})
        for place, area, source in (("A1", "Sheet1!A1:B2", None), ("B2", None, "Sheet1!A1"), ("D2", None, "Sheet1!D1"),
                                    ("F1", None, None), ("Z9", None, None), ("D1", "Sheet1!D1:D2", None)):
            self.assertEqual((spill_area(book, place), spilled_from(book, place)), (area, source))
        self.assertEqual(spill_area(book=book, place="$A$1"), "Sheet1!A1:B2")
        self.assertEqual(spilled_from(book=book, place="b1"), "Sheet1!A1")
        self.assertEqual(book.text_of("B2"), "")

    def test_no_room(self):
        # A cell that holds something, even an empty text or a formula.
        for text in ("5", "'", "=1"):
            book = book_of({"A1": "={1,2}", "B1": text, "C1": "=A1"})
            self.values(book, {"A1": "#SPILL", "C1": "#SPILL"})
            self.assertIsNone(spill_area(book, "A1"))
            book.put("B1", "")
            self.values(book, {"A1": 1, "B1": 2, "C1": 1})
            self.worked(book, "A1 C1")
        # Beyond the grid.
        book = book_of({"ZZZ5": "={1,2}", "A1000000": "={1;2}", "ZZY7": "={1,2}", "A999999": "=TRANSPOSE({1})"})
        self.values(book, {"ZZZ5": "#SPILL", "A1000000": "#SPILL", "ZZY7": 1, "ZZZ7": 2, "A999999": 1})
        # A formula ahead on the same sheet that spills there.
        book = book_of({"B1": "={1;2;3}", "A2": "={4,5,6}", "A3": "={7,8}", "C1": "={9;9}"})
        self.values(book, {"B1": 1, "B2": 2, "B3": 3, "A2": "#SPILL", "A3": "#SPILL", "C1": 9, "C2": 9})
        book.put("B1", "=1")
        self.values(book, {"A2": "#SPILL", "A3": 7, "B3": 8, "C2": 9})
        self.worked(book, "B1 A2 A3")
        book.put("C1", "")
        self.values(book, {"A2": 4, "B2": 5, "C2": 6})
        # Rows are in order ahead of columns: that of the first row spills.
        book = book_of({"A2": "={1,2}", "B1": "={3;4}"})
        self.values(book, {"B1": 3, "B2": 4, "A2": "#SPILL"})
        # On unlike sheets nothing is in the way.
        book = book_of({"A1": "={1;2}", "Tax!A1": "={3;4}"}, sheets=("Tax",))
        self.values(book, {"A2": 2, "Tax!A2": 4})

    def test_spill_references(self):
        book = book_of({"A1": "=SEQUENCE(3)", "B1": "=SUM(A1#)", "B2": "=ROWS(A1#)", "B3": "=ROW(A2#)", "C1": "=A1#*10", "D1": "7",
                        "D2": "=D1#+1", "D3": "=SUM(Z9#)", "D4": "=ROWS(A2#)", "E1": "=A2#", "E2": "=ROW(A1#)"})
        self.values(book, {"B1": 6, "B2": 3, "B3": 2, "C1": 10, "C3": 30, "D2": 8, "D3": 0, "D4": 1, "E1": 2, "E2": 1, "E4": 3})
        book.put("A2", "x")
        self.values(book, {"A1": "#SPILL", "B1": "#SPILL", "B2": 1, "C1": "#SPILL", "C2": None, "E1": "x"})
        book.put("A2", "")
        self.values(book, {"A1": 1, "B1": 6, "C3": 30})
        book.put("A1", "=SEQUENCE(1,2)")
        self.values(book, {"A1": "#SPILL", "A2": None})

    def test_values_spilled_count_for_others(self):
        book = book_of({"A1": "={1;2;3}", "B1": "=SUM(A1:A5)", "B2": "=A3", "B3": "=COUNT(A:A)", "B4": "=A1:A2+A2:A3"})
        self.values(book, {"B1": 6, "B2": 3, "B3": 3, "B4": 3, "B5": 5})
        book.put("A1", "={1;2}")
        self.values(book, {"B1": 3, "B2": 0, "B3": 2, "B4": 3, "B5": 2})


class Changes(BookCase):
    def test_contents(self):
        book = book_of({"A3": "=A2", "A2": "=A1", "A1": "=B1", "B1": "5", "C1": "=7", "D1": "=SUM(B:B)", "E1": "=A3+D1"})
        book.put("B1", "6")
        self.worked(book, "A1 D1 A2 A3 E1")
        book.put("B1", " 6.0 ")
        self.worked(book, "")
        book.put("Z1", "x")
        self.worked(book, "")
        book.put("C1", "=8")
        self.worked(book, "C1")
        book.put("A1", "")
        self.worked(book, "A2 A3 E1")
        book.put("A1", "=B1")
        self.worked(book, "A1 A2 A3 E1")
        self.assertEqual(last_worked(book=book.copied()), last_worked(book))
        self.assertEqual(last_worked(Book()), ())
        self.values(book, {"E1": 12})

    def test_rings_come_first(self):
        book = book_of({"A1": "=Z1", "B1": "=C1", "C1": "=B1+Z1", "D1": "=A1+B1", "A2": "=A3", "A3": "=A2+A1", "Z1": "1"})
        book.put("Z1", "2")
        self.worked(book, "B1 C1 A2 A3 A1 D1")
        book.put("C1", "=Z1")
        self.worked(book, "C1 B1 D1")
        self.values(book, {"B1": 2, "D1": 4, "A3": "#RING"})
        book.put("C1", "=B1+Z1")
        self.worked(book, "B1 C1 D1")
        self.values(book, {"B1": "#RING", "D1": "#RING"})

    def test_through_reaches(self):
        book = book_of({"A1": "=SEQUENCE(B1)", "B1": "3", "C1": "=A9", "C2": "=A10001"})
        book.put("A500", "x")
        self.worked(book, "A1 C1")
        book.put("A10001", "x")
        self.worked(book, "C2")
        book.put("A500", "")
        self.worked(book, "A1 C1")
        book.put("B1", "4")
        self.worked(book, "A1 C1")
        # What hung on a formula that is gone.
        book.put("A1", "")
        self.worked(book, "C1")
        # What hung on a touched formula ahead of the change alone.
        book = book_of({"A1": "=SEQUENCE(3)", "B1": "=A1#", "D9": "=B2", "D1": "=D9", "E9": "=B4"})
        self.values(book, {"D9": 2, "D1": 2, "E9": 0})
        book.put("A1", "=5")
        self.worked(book, "A1 B1 D9 D1")
        self.values(book, {"D9": 0, "D1": 0, "B1": 5})
        book.put("A1", "=SEQUENCE(4)")
        self.worked(book, "A1 B1 D9 D1 E9")
        self.values(book, {"D9": 2, "D1": 2, "E9": 4})
        book = book_of({"B1": "=it.x", "D9": "=B2"}, {"it.x": "SEQUENCE(3)"})
        self.values(book, {"D9": 2})
        book.define("it.x", "7")
        self.worked(book, "B1 D9")
        self.values(book, {"D9": 0})

    def test_names_and_sheets(self):
        book = book_of({"A1": "=rate", "A2": "=deep", "A3": "=A2", "A4": "=5", "Tax!A1": "=other"}, {"deep": "rate+1"}, ("Tax",))
        book.define("rate", "3")
        self.worked(book, "A1 A2 A3")
        book.define("RATE", "3.0")
        self.worked(book, "")
        book.define("more", "3")
        self.worked(book, "")
        book.define("other", "rate")
        self.worked(book, "Tax!A1")
        book.undefine("rate")
        self.worked(book, "A1 A2 A3 Tax!A1")
        book.add_sheet("More")
        self.worked(book, "A1 A2 A3 A4 Tax!A1")
        book.rename_sheet("More", "Less")
        self.worked(book, "A1 A2 A3 A4 Tax!A1")
        book.drop_sheet("Tax")
        self.worked(book, "A1 A2 A3 A4")

    def test_edits(self):
        def fresh():
            return book_of({"A1": "1", "A2": "=A1", "B5": "=SUM(A1:A3)", "C1": "=9"}, {"top.x": "A1"})
        for edit, told in (
                (lambda book: insert_rows(book, "Sheet1", 9, 1), ""), (lambda book: insert_rows(book, "Sheet1", 2, 1), "A3 B6"),
                (lambda book: insert_columns(book, "Sheet1", 3, 1), "D1"), (lambda book: delete_rows(book, "Sheet1", 4, 1), "B4"),
                (lambda book: delete_columns(book, "Sheet1", 3, 1), ""), (lambda book: delete_columns(book, "Sheet1", 9, 1), ""),
                (lambda book: move_cells(book, "C1", "C2"), "C2"), (lambda book: move_cells(book, "A1", "A1"), ""),
                (lambda book: move_cells(book, "A1", "E5"), "A2 B5"), (lambda book: copy_cells(book, "A1", "A3"), "B5"),
                (lambda book: copy_cells(book, "A2", "A3"), "A3 B5"), (lambda book: copy_cells(book, "Z1", "Z2"), ""),
                (lambda book: fill_cells(book, "A2", "A2:A4"), "A3 A4 B5"), (lambda book: fill_cells(book, "A1", "A1"), ""),
                (lambda book: sort_rows(book, "A1:A2", [(1, False)]), ""),
                (lambda book: open_cells(book, "C1"), "C2"), (lambda book: close_cells(book, "D1"), ""),
                (lambda book: close_cells(book, "C1"), "")):
            book = fresh()
            edit(book)
            self.worked(book, told)
            self.values(book, {})
        # A name that an edit changes touches the formulas that use it.
        book = book_of({"B1": "=top.x", "C1": "=B1", "A1": "4"}, {"top.x": "A5"})
        insert_rows(book, "Sheet1", 5, 1)
        self.worked(book, "B1 C1")
        self.assertEqual(book.names(), {"top.x": "Sheet1!$A$6"})

    def test_fresh_values(self):
        book = book_of({"B1": "=A1", "A1": "5", "A2": "'", "Tax!A1": "={1,2}", "C1": HIGH, "C2": "=C2"}, sheets=("Tax",))
        told = fresh_values(book=book)
        self.assertEqual([(place, as_told(value)) for place, value in told.items()], [
            ("Sheet1!A1", 5), ("Sheet1!B1", 5), ("Sheet1!A2", ""), ("Sheet1!C2", "#RING"), ("Tax!A1", 1)])
        self.worked(book, "C2")
        told.clear()
        self.assertEqual(len(fresh_values(book)), 5)
        self.assertEqual(book.value_of("C2"), Fault("RING"))
        for value in (None, 1, "book", []):
            self.bad(value, last_worked, value)
            self.bad(value, fresh_values, value)

    def test_a_book_of_full_size(self):
        book = Book()
        book.put("A1", 1)
        for row in range(2, 1001):
            book.put(f"A{row}", f"=A{row - 1}+1")
            book.put(f"B{row}", f"=SUM(A$1:A{row})*A$1")
        self.assertEqual(book.value_of("B1000"), Ratio(500500))
        book.put("A1", "2")
        self.assertEqual(len(last_worked(book)), 1998)
        self.assertEqual(book.value_of("A1000"), Ratio(1001))
        insert_rows(book, "Sheet1", 500, 1)
        self.assertEqual(book.value_of("A1001"), Ratio(1001))
