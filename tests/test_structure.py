"""[2], [49], [50], [51], [52], [115]: rows, columns and cells put in and taken out."""

from allinputs.errors import NotAName, OffGrid, Unknown
from allinputs.structure import close_cells, delete_columns, delete_rows, insert_columns, insert_rows, open_cells
from tests.books import BookCase, book_of
from tests.helper import NO_INTEGERS

NO_BOOKS = (None, 1, "book", [], {})
NO_STRINGS = (None, 1, True, ["Sheet1"], b"x")


class Lines(BookCase):
    def follows(self, edit, rows):
        """References in a formula on another sheet, and in that of a name, become what is told."""
        for text, told in rows:
            book = book_of({"Tax!A1": f"={text}&X9"}, {"it.x": text}, ("Tax",))
            edit(book)
            self.assertEqual(book.text_of("Tax!A1"), f"={told}&X9", text)
            fixed = book.names()["it.x"].replace("$", "")
            self.assertEqual(fixed, told.replace("$", ""), text)

    def test_references_behind_rows_put_in(self):
        self.follows(lambda book: insert_rows(book, "sheet1", 3, 2), [
            ("Sheet1!A2", "Sheet1!A2"), ("Sheet1!A3", "Sheet1!A5"), ("sheet1!$A$3", "sheet1!$A$5"), ("Sheet1!B$9#", "Sheet1!B$11#"),
            ("Sheet1!A1:B2", "Sheet1!A1:B2"), ("Sheet1!A1:B3", "Sheet1!A1:B5"), ("Sheet1!A3:$B$4", "Sheet1!A5:$B$6"),
            ("Sheet1!A:B", "Sheet1!A:B"), ("Sheet1!2:3", "Sheet1!2:5"), ("Sheet1!$3:4", "Sheet1!$5:6"), ("Sheet1!1:2", "Sheet1!1:2"),
            ("Sheet1!A999998", "Sheet1!A1000000"), ("Sheet1!A999999", "#REF"), ("Sheet1!A1000000#", "#REF"),
            ("Sheet1!A2:A999999", "Sheet1!A2:A1000000"), ("Sheet1!A5:B$1000000", "Sheet1!A7:B$1000000"),
            ("Sheet1!A999999:A1000000", "#REF"), ("Sheet1!A999998:A999999", "Sheet1!A1000000:A1000000"),
            ("Sheet1!999999:1000000", "#REF"), ("Sheet1!5:999999", "Sheet1!7:1000000"), ("Sheet1!A1:B1000000", "Sheet1!A1:B1000000"),
            ("Tax!A9", "Tax!A9"), ("none!A9", "none!A9"), ("other.name", "other.name"), ("#NA", "#NA")])

    def test_references_behind_columns_put_in(self):
        self.follows(lambda book: insert_columns(book, "sheet1", 3, 2), [
            ("Sheet1!B1", "Sheet1!B1"), ("Sheet1!C1", "Sheet1!E1"), ("Sheet1!$C$1", "Sheet1!$E$1"), ("Sheet1!A1:C3", "Sheet1!A1:E3"),
            ("Sheet1!2:3", "Sheet1!2:3"), ("Sheet1!B:C", "Sheet1!B:E"), ("Sheet1!$C:D", "Sheet1!$E:F"), ("Sheet1!ZZX1", "Sheet1!ZZZ1"),
            ("Sheet1!ZZY1", "#REF"), ("Sheet1!B1:ZZY2", "Sheet1!B1:ZZZ2"), ("Sheet1!ZZY:ZZZ", "#REF"), ("Sheet1!A:ZZZ", "Sheet1!A:ZZZ")])

    def test_references_behind_rows_taken_out(self):
        self.follows(lambda book: delete_rows(book, "sheet1", 3, 2), [
            ("Sheet1!A2", "Sheet1!A2"), ("Sheet1!A3", "#REF"), ("Sheet1!A$4#", "#REF"), ("Sheet1!$A$5", "Sheet1!$A$3"),
            ("Sheet1!A1:B2", "Sheet1!A1:B2"), ("Sheet1!A3:B4", "#REF"), ("Sheet1!A2:B3", "Sheet1!A2:B2"), ("Sheet1!A4:B6",
             "Sheet1!A3:B4"), ("Sheet1!A1:B9", "Sheet1!A1:B7"), ("Sheet1!A$2:B$4", "Sheet1!A$2:B$2"), ("Sheet1!A2:B$4",
             "Sheet1!A$2:B2"), ("Sheet1!A$4:B5", "Sheet1!A$3:B3"), ("Sheet1!A4:B$5", "Sheet1!A$3:B3"), ("Sheet1!A:B", "Sheet1!A:B"),
            ("Sheet1!3:4", "#REF"), ("Sheet1!$3:9", "Sheet1!$3:7"), ("Sheet1!1:3", "Sheet1!1:2"), ("Sheet1!A1:A1000000",
             "Sheet1!A1:A999998"), ("Tax!A3", "Tax!A3"), ("none!A3", "none!A3")])
        self.follows(lambda book: delete_rows(book, "sheet1", 1, 1000000), [
            ("Sheet1!A1:B1000000", "#REF"), ("Sheet1!A:B", "Sheet1!A:B"), ("Sheet1!1:1000000", "#REF")])

    def test_references_behind_columns_taken_out(self):
        self.follows(lambda book: delete_columns(book, "sheet1", 3, 2), [
            ("Sheet1!B1", "Sheet1!B1"), ("Sheet1!C1", "#REF"), ("Sheet1!$E$1", "Sheet1!$C$1"), ("Sheet1!A1:C3", "Sheet1!A1:B3"),
            ("Sheet1!D1:E3", "Sheet1!C1:C3"), ("Sheet1!2:3", "Sheet1!2:3"), ("Sheet1!C:D", "#REF"), ("Sheet1!$C:F", "Sheet1!$C:D"),
            ("Sheet1!B$2:$D$4", "Sheet1!$B$2:B$4")])

    def test_cells_and_own_references(self):
        book = book_of({"A1": "1", "A2": "=A1+A3", "A3": "3", "B4": "=SUM(A1:A3)", "C3": "=Tax!A3", "Tax!A3": "=A3+Sheet1!A3"},
                       sheets=("Tax",))
        self.assertIsNone(insert_rows(book=book, sheet="SHEET1", at=3, many=1))
        self.texts(book, {"A1": "1", "A2": "=A1+A4", "A4": "3", "C4": "=Tax!A3", "B5": "=SUM(A1:A4)", "Tax!A3": "=A3+Sheet1!A4"})
        self.assertIsNone(delete_rows(book=book, sheet="Sheet1", at=1, many=1))
        self.texts(book, {"A1": "=#REF+A3", "A3": "3", "C3": "=Tax!A3", "B4": "=SUM(A1:A3)", "Tax!A3": "=A3+Sheet1!A3"})
        self.assertIsNone(insert_columns(book=book, sheet="Sheet1", at=1, many=2))
        self.texts(book, {"C1": "=#REF+C3", "C3": "3", "E3": "=Tax!A3", "D4": "=SUM(C1:C3)", "Tax!A3": "=A3+Sheet1!C3"})
        self.assertIsNone(delete_columns(book=book, sheet="tax", at=1, many=1))
        self.texts(book, {"C1": "=#REF+C3", "C3": "3", "E3": "=#REF", "D4": "=SUM(C1:C3)"})
        self.values(book, {"D4": "#REF", "C3": 3})

    def test_off_the_grid(self):
        book = book_of({"A1": "1", "C999998": "x", "B999999": "x", "A1000000": "=A1", "Tax!A1000000": "x"}, sheets=("Tax",))
        self.stays(book, OffGrid, {"row": 1000001, "column": 1}, insert_rows, book, "Sheet1", 5, 1)
        self.stays(book, OffGrid, {"row": 1000001, "column": 2}, insert_rows, book, "Sheet1", 5, 2)
        self.stays(book, OffGrid, {"row": 1000001, "column": 3}, insert_rows, book, "Sheet1", 999998, 3)
        self.stays(book, OffGrid, {"row": 1999998, "column": 3}, insert_rows, book, "Sheet1", 2, 1000000)
        self.stays(book, OffGrid, {"row": 1000001, "column": 1}, insert_rows, book, "Sheet1", 1000000, 1)
        book = book_of({"ZZZ9": "1", "ZZY7": "2", "ZZZ2": "'"})
        self.stays(book, OffGrid, {"row": 2, "column": 18279}, insert_columns, book, "Sheet1", 1, 1)
        self.stays(book, OffGrid, {"row": 2, "column": 18280}, insert_columns, book, "Sheet1", 18278, 2)
        insert_rows(book, "Sheet1", 10, 1000000)
        self.texts(book, {"ZZZ9": "1", "ZZY7": "2", "ZZZ2": "'"})
        # What only spills there does not count.
        book = book_of({"A999999": "={1;2}"})
        self.values(book, {"A1000000": 2})
        insert_rows(book, "Sheet1", 1, 1)
        self.values(book, {"A1000000": "#SPILL"})

    def test_wrong_arguments(self):
        book = book_of({"A1": "1"})
        for call, most in ((insert_rows, 1000000), (delete_rows, 1000000), (insert_columns, 18278), (delete_columns, 18278)):
            for value in NO_BOOKS:
                self.bad(value, call, value, None, 0, 0)
            for value in NO_STRINGS:
                self.stays_bad(book, value, call, book, value, 0, 0)
            for value in NO_INTEGERS + (0, -1, most + 1):
                self.stays_bad(book, value, call, book, "none", value, 0)
                self.stays_bad(book, value, call, book, "none", 1, value)
            self.stays(book, Unknown, {"name": "none"}, call, book, "none", 1, 1)
            self.stays(book, Unknown, {"name": ""}, call, book, "", 1, most)
        for call, most in ((delete_rows, 1000000), (delete_columns, 18278)):
            for at, many in ((2, most), (most, 2), (most - 1, 3)):
                self.stays_bad(book, many, call, book, "none", at, many)
            call(book, "Sheet1", most, 1)
        book.put("A1", "1")
        insert_rows(book, "Sheet1", 1000000, 1000000)
        self.texts(book, {"A1": "1"})


class Room(BookCase):
    def test_opened_downwards(self):
        book = book_of({"B2": "1", "C3": "2", "D3": "3", "A9": "=B2+B3:C9+B2:D3+B:B+2:3+B1+C3#", "Tax!A1": "=sheet1!C9+B2"},
                       {"it.x": "C5"}, ("Tax",))
        open_cells(book, "B2:C3")
        self.texts(book, {"B4": "1", "C5": "2", "D3": "3", "A9": "=B4+B5:C11+B2:D3+B:B+2:3+B1+C5#", "Tax!A1": "=sheet1!C11+B2"})
        self.assertEqual(book.names(), {"it.x": "Sheet1!$C$7"})
        close_cells(book, "$B$2:C3")
        self.texts(book, {"B2": "1", "C3": "2", "D3": "3", "A9": "=B2+B3:C9+B2:D3+B:B+2:3+B1+C3#", "Tax!A1": "=sheet1!C9+B2"})

    def test_opened_to_the_right(self):
        book = book_of({"B2": "1", "C3": "2", "D4": "3", "A9": "=B2+B3:C3+B2:B4+B:B+2:3+2:9+A2"})
        self.assertIsNone(open_cells(book=book, area="B2:C3", down=False))
        self.texts(book, {"D2": "1", "E3": "2", "D4": "3", "A9": "=D2+D3:E3+B2:B4+B:B+2:3+2:9+A2"})
        self.assertIsNone(close_cells(book=book, area="B2:C3", up=False))
        self.texts(book, {"B2": "1", "C3": "2", "D4": "3", "A9": "=B2+B3:C3+B2:B4+B:B+2:3+2:9+A2"})

    def test_references_within_the_rows_alone(self):
        text = "B1+B2+B3+B4+B1:C2+B2:C3+B3:C4+B1:C4+B2:C2+B3:C3+2:3+1:2+B:C+D2:E2"
        book = book_of({"A9": "=" + text})
        open_cells(book, "B2:B3", down=False)
        self.assertEqual(book.text_of("A9"), "=B1+C2+C3+B4+B1:C2+C2:D3+B3:C4+B1:C4+C2:D2+C3:D3+2:3+1:2+B:C+E2:F2")
        close_cells(book, "B2:B3", up=False)
        self.assertEqual(book.text_of("A9"), "=" + text)
        close_cells(book, "B2:B3", up=False)
        self.assertEqual(book.text_of("A9"), "=B1+#REF+#REF+B4+B1:C2+B2:B3+B3:C4+B1:C4+B2:B2+B3:B3+2:3+1:2+B:C+C2:D2")

    def test_closed(self):
        book = book_of({"A1": "1", "A2": "2", "B2": "3", "A5": "=B3", "C1": "=A1+A2+A2:A3+A1:A2+A3:A4+A2:B2+A:A+2:2+A1:A1000000"})
        close_cells(book, "A2:A3")
        self.texts(book, {"A1": "1", "A3": "=B3", "B2": "3", "C1": "=A1+#REF+#REF+A1:A1+A2:A2+A2:B2+A:A+2:2+A1:A999998"})
        book = book_of({"A1": "1", "B1": "2", "C1": "3", "A2": "=A1+B1+C1+B1:D1+B1:B2+B:B+1:1"})
        close_cells(book, "B1", up=False)
        self.texts(book, {"A1": "1", "B1": "3", "A2": "=A1+#REF+B1+B1:C1+B1:B2+B:B+1:1"})

    def test_whole_columns_and_rows(self):
        one = book_of({"A1": "1", "B2": "=A1", "C3": "=1:2"})
        other = one.copied()
        open_cells(one, "2:3")
        insert_rows(other, "Sheet1", 2, 2)
        self.assertTrue(one == other)
        open_cells(one, "B:B", down=False)
        insert_columns(other, "Sheet1", 2, 1)
        self.assertTrue(one == other)
        close_cells(one, "2:3")
        delete_rows(other, "Sheet1", 2, 2)
        self.assertTrue(one == other)
        close_cells(one, "B:B", up=False)
        delete_columns(other, "Sheet1", 2, 1)
        self.assertTrue(one == other)
        self.stays(one, OffGrid, {"row": 1000002, "column": 2}, open_cells, one, "B:B")
        close_cells(one, "A:B")
        self.texts(one, {"C3": "=1:2"})
        one.put("Z9", "x")
        self.stays(one, OffGrid, {"row": 9, "column": 18304}, open_cells, one, "9:9", down=False)

    def test_off_the_grid(self):
        book = book_of({"A1000000": "x", "B999999": "y", "Tax!A1000000": "z"}, sheets=("Tax",))
        self.stays(book, OffGrid, {"row": 1000001, "column": 2}, open_cells, book, "A1:B2")
        self.stays(book, OffGrid, {"row": 1000001, "column": 1}, open_cells, book, "A1")
        open_cells(book, "B1")
        open_cells(book, "C1:Z9")
        self.assertEqual(book.text_of("B1000000"), "y")
        self.stays(book, OffGrid, {"row": 1000001, "column": 1}, open_cells, book, "tax!A5:C5")
        open_cells(book, "tax!B5:C5")

    def test_wrong_arguments(self):
        book = book_of({"A1": "1"})
        for call, word in ((open_cells, "down"), (close_cells, "up")):
            for value in NO_BOOKS:
                self.bad(value, call, value, None)
            for value in NO_STRINGS:
                self.stays_bad(book, value, call, book, value)
                self.stays_bad(book, value, call, book, value, **{word: 1})
            for value in (0, 1, None, "x", []):
                self.stays_bad(book, value, call, book, "??", **{word: value})
            for text in ("", "A", "A1:", "A0", "A1:B2:C3", "Sheet1", "none!"):
                self.stays(book, NotAName, {"name": text}, call, book, text)
            for text in ("none!A1", "NONE!B:B"):
                self.stays(book, Unknown, {"name": text[:4]}, call, book, text)
