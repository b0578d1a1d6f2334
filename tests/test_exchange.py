"""[43], [47], [48], [78], [134]: values put elsewhere."""

from allinputs.errors import NotAFormula, NotAName, NotTold, OffGrid, TooHigh, TooMany, Unknown
from allinputs.exchange import area_rows, content_text, put_rows
from allinputs.ratios import Ratio
from allinputs.values import FAULT_KINDS, Fault, same
from tests.books import BookCase, book_of
from tests.helper import root_member, root_strand


class ContentTexts(BookCase):
    def test_each_kind_of_value(self):
        for value, text in ((Ratio(-1, 4), "-0.25"), (Ratio(7, 3), "7/3"), (Ratio(5), "5"), (True, "TRUE"), (False, "FALSE"),
                            (None, ""), ("abc", "abc"), ("", "'"), ("5", "'5"), ("true", "'true"), ("=1", "'=1"), ("'x", "''x"),
                            (" 1 ", "' 1 "), ("a b", "a b"), ("#NA", "#NA")):
            self.assertEqual(content_text(value), text)
        for kind in FAULT_KINDS:
            self.assertEqual(content_text(Fault(kind)), f"=#{kind}")
        self.assertEqual(content_text(value=True), "TRUE")

    def test_put_they_are_the_values(self):
        book = book_of({})
        for value in (Ratio(-1, 4), Ratio(10 ** 200, 3), True, "abc", "", "5", "true", "=1", "'x", " 1 ", Fault("RING"), Fault("NA")):
            book.put("A1", content_text(value))
            self.assertTrue(same(book.value_of("A1"), value))

    def test_errors(self):
        self.fails(NotTold, {}, content_text, root_member())
        self.fails(NotTold, {}, content_text, root_strand())
        self.fails(TooHigh, {"most": 3000}, content_text, Ratio(10 ** 3000))
        for value in (1, 1.5, [], (), "\n", "x" * 1001, object(), {}):
            self.bad(value, content_text, value)


class AreaRows(BookCase):
    CELLS = {"A1": "1", "B1": "'5", "A2": "=A1/3", "B2": "=1/0", "C2": "=A1>0", "A4": "=SEQUENCE(1,2)", "Tax!A1": "tax"}

    def test_rows_of_areas(self):
        book = book_of(self.CELLS, sheets=("Tax",))
        self.assertEqual(area_rows(book, "A1:C2"), [["1", "'5", ""], ["1/3", "=#DIV", "TRUE"]])
        self.assertEqual(area_rows(book, "$B$4:A4"), [["1", "2"]])
        self.assertEqual(area_rows(area="tax!A1", book=book), [["tax"]])
        self.assertEqual(area_rows(book, "Z9"), [[""]])

    def test_values_put_elsewhere_are_there_again(self):
        book = book_of(self.CELLS, sheets=("Tax",))
        put_rows(book, "Tax!C7", area_rows(book, "A1:C4"))
        for row in range(1, 5):
            for column, other in zip("ABC", "CDE"):
                self.assertTrue(same(book.value_of(f"{column}{row}"), book.value_of(f"Tax!{other}{row + 6}")))

    def test_errors_in_their_order(self):
        book = book_of({"A1": "=(9^64)^60", "A2": "=SUM(A1,1)", "B1": "5"})
        self.fails(NotAName, {"name": "?"}, area_rows, book, "?")
        self.fails(NotAName, {"name": "A1:"}, area_rows, book, "A1:")
        self.fails(TooMany, {"most": 10000}, area_rows, book, "Tax!A:A")
        self.fails(TooMany, {"most": 10000}, area_rows, book, "A1:A10001")
        self.fails(TooMany, {"most": 10000}, area_rows, book, "2:2")
        self.fails(Unknown, {"name": "Tax"}, area_rows, book, "Tax!A1:B2")
        self.fails(TooHigh, {"most": 3000}, area_rows, book, "A1:B2")
        self.fails(TooHigh, {"most": 3000}, area_rows, book, "A2")
        self.assertEqual(len(area_rows(book, "C1:C10000")), 10000)
        for value in (None, 1, "A1"):
            self.bad(value, area_rows, value, "A1")
        for value in (None, 1, ["A1"]):
            self.bad(value, area_rows, book, value)


class PutRows(BookCase):
    def test_rows_of_unlike_lengths(self):
        book = book_of({"B2": "old", "C2": "old", "D2": "stays", "B3": "stays"})
        put_rows(book, "b2", [["1", ""], [], ["=B2+1", "'x", "TRUE"]])
        self.texts(book, {"B2": "1", "D2": "stays", "B3": "stays", "B4": "=B2+1", "C4": "x", "D4": "TRUE"})
        self.values(book, {"B4": 2})

    def test_nothing_to_put(self):
        book = book_of({"A1": "1"})
        for rows in ([], [[]], [[], []], ()):
            put_rows(book, "A1", rows)
            self.texts(book, {"A1": "1"})
            self.worked(book, "")

    def test_one_change(self):
        book = book_of({"C1": "=A1+B1", "C2": "=A2", "C3": "=SUM(C1:C2)", "C4": "=A9"})
        put_rows(book, "A1", [["1", "2"], ["=B1"]])
        self.worked(book, "C1 A2 C2 C3")
        self.values(book, {"C3": 5})
        put_rows(rows=[("1", "2"), ("=B1",)], place="$A$1", book=book)
        self.worked(book, "")

    def test_on_other_sheets(self):
        book = book_of({}, sheets=("Tax",))
        put_rows(book, "tax!A1", [["5", "=A1"]])
        self.values(book, {"Tax!B1": 5, "B1": None})

    def test_the_first_cell_with_an_error(self):
        book = book_of({"A1": "1", "B1": "=A1"})
        deep = "=" + "(" * 61
        for place, rows, error, fields in (
            ("A1", [["5", "=1+"], [deep]], NotAFormula, {"at": 3}),
            ("A1", [["5"], [deep, "=1+"]], TooMany, {"most": 60}),
            ("A1", [["5"], ["=" + "-" * 60 + "1", "=1+"]], TooMany, {"most": 60}),
            ("ZZZ1", [["5", "=1+"], ["=)"]], OffGrid, {"row": 1, "column": 18279}),
            ("A1000000", [["5", "6"], ["=1+"]], OffGrid, {"row": 1000001, "column": 1}),
            ("A1000000", [["5", "=1+"], ["=1"]], NotAFormula, {"at": 3}),
            ("ZZZ1000000", [["5"], ["6", "7"]], OffGrid, {"row": 1000001, "column": 18278}),
            ("?", [["=1+"]], NotAName, {"name": "?"}),
            ("Tax!A1", [["=1+"]], Unknown, {"name": "Tax"}),
        ):
            self.stays(book, error, fields, put_rows, book, place, rows)
        put_rows(book, "ZZZ1000000", [["5"], []])
        self.assertEqual(book.text_of("ZZZ1000000"), "5")

    def test_wrong_arguments(self):
        book = book_of({"A1": "1"})
        for value in (None, 1, "A1"):
            self.bad(value, put_rows, value, "A1", [])
        for value in (None, 1, ["A1"]):
            self.stays_bad(book, value, put_rows, book, value, 5)
        for value in (None, 1, "A1", {}):
            self.stays_bad(book, value, put_rows, book, "?", value)
        for value in (None, "5", ["5", 5], ["\n"], ["x" * 1001], ["='" + "x" * 2000], [None], [Ratio(5)], [True]):
            self.stays_bad(book, value, put_rows, book, "?", [["=1+"], value, 5])
