"""[2], [49], [53], [54], [57], [116]: cells moved and copied; facts about edits."""

import random

from allinputs.book import Book
from allinputs.errors import NotAName, OffGrid, TooHigh, Unknown
from allinputs.moving import copy_cells, move_cells
from allinputs.structure import close_cells, delete_columns, delete_rows, insert_columns, insert_rows, open_cells
from allinputs.values import same
from tests.books import BookCase, book_of

NO_BOOKS = (None, 1, "book", [], {})
NO_STRINGS = (None, 1, True, ["A1"], b"A1")


class Moving(BookCase):
    def test_within_a_sheet(self):
        book = book_of({"A1": "1", "B2": "=A1+$A$1+C3+A2", "C3": "9", "D5": "lost", "F1": "=A1+B2+A1:B2+$A$1:B$2+A1:C3+D4:E5+E5+D4:D6"
                        "+A:A+1:2+B2#"}, {"it.x": "B2"})
        move_cells(book, "A1:B2", "D4")
        self.texts(book, {"D4": "1", "E5": "=D4+$D$4+C3+D5", "C3": "9", "F1": "=D4+E5+D4:E5+$D$4:E$5+A1:C3+#REF+#REF+D4:D6"
                          "+A:A+1:2+E5#"})
        self.assertEqual(book.names(), {"it.x": "Sheet1!$E$5"})
        self.values(book, {"E5": 11, "A1": None})

    def test_onto_cells_of_the_area_itself(self):
        book = book_of({"A1": "1", "A2": "=A1", "A3": "=A2", "A4": "4", "B1": "=A1+A3+A4+A1:A3+A2:A4+A4:A4"})
        move_cells(book, "A1:A3", "A2")
        self.texts(book, {"A2": "1", "A3": "=A2", "A4": "=A3", "B1": "=A2+A4+#REF+A2:A4+#REF+#REF"})
        before = book.copied()
        move_cells(book, "A2:A4", "$A2")
        self.assertTrue(book == before)

    def test_empty_cells_are_moved_too(self):
        book = book_of({"A1": "1", "C1": "x", "C2": "y", "D1": "=A2+C2"})
        self.assertIsNone(move_cells(book=book, area="A1:A2", place="C1"))
        self.texts(book, {"C1": "1", "D1": "=C2+#REF"})
        book = book_of({"A1": "x", "B1": "=Z1"})
        move_cells(book, "Z1", "A1")
        self.texts(book, {"B1": "=A1"})

    def test_what_stands_beside(self):
        places = [letter + str(row) for letter in "ABCDEF" for row in range(1, 9)]
        book = book_of({place: place for place in places})
        book.put("H1", "=C5+D5+C4+E6+C7+B5+C5:D6+C4:D6+C5:E6+C5:D7+B5:D6")
        move_cells(book, "A1:B2", "C5")
        self.assertEqual(book.text_of("H1"), "=#REF+#REF+C4+E6+C7+B5+#REF+C4:D6+C5:E6+C5:D7+B5:D6")
        told = {"A1": "", "B1": "", "A2": "", "B2": "", "C5": "A1", "D5": "B1", "C6": "A2", "D6": "B2"}
        for place in places:
            self.assertEqual(book.text_of(place), told.get(place, place))
        # A copy, too, changes the target alone.
        for area, told in (
                ("A1:C2", {"D4": "A1", "E4": "B1", "F4": "", "D5": "A2", "E5": "", "F5": "C2"}),
                ("A1:B3", {"D4": "A1", "E4": "B1", "D5": "A2", "E5": "", "D6": "A3", "E6": "B3"})):
            book = book_of({place: place for place in places if place not in ("B2", "C1")})
            copy_cells(book, area, "D4")
            for place in places:
                if place not in ("B2", "C1"):
                    self.assertEqual(book.text_of(place), told.get(place, place))

    def test_to_another_sheet(self):
        book = book_of({"A1": "1", "A2": "=A1+B1+Tax!B1+sheet1!B1+none!A1+it.x", "B1": "=A1+SUM(A1:A2)+sheet1!A2+Tax!C1+A1:B1",
                        "Tax!B1": "=sheet1!A1+C1+D4+tax!D4", "Tax!D4": "lost"}, {"it.x": "A2", "on.x": "tax!D4"}, ("Tax",))
        move_cells(book, "A1:A2", "TAX!C1")
        self.texts(book, {"B1": "=Tax!C1+SUM(Tax!C1:C2)+Tax!C2+#REF+A1:B1", "Tax!C1": "1",
                          "Tax!C2": "=C1+Sheet1!B1+Tax!B1+sheet1!B1+none!A1+it.x", "Tax!B1": "=Tax!C1+#REF+D4+tax!D4",
                          "Tax!D4": "lost"})
        self.assertEqual(book.names(), {"it.x": "Tax!$C$2", "on.x": "tax!$D$4"})
        # Back again: a reference with a sheet keeps it, as long as it lies there.
        move_cells(book, "tax!C1:C2", "A1")
        self.assertEqual(book.text_of("A2"), "=A1+Sheet1!B1+Tax!B1+sheet1!B1+none!A1+it.x")
        self.assertEqual(book.text_of("B1"), "=Sheet1!A1+SUM(Sheet1!A1:A2)+Sheet1!A2+#REF+A1:B1")

    def test_whole_columns_and_rows(self):
        book = book_of({"A1": "1", "A2": "=B1", "E1": "=SUM(A:A)+SUM($A:B)+A1:A1000000+2:2", "Tax!A1": "=Sheet1!A:A"}, {}, ("Tax",))
        move_cells(book, "A:A", "C1")
        self.texts(book, {"C1": "1", "C2": "=B1", "E1": "=SUM(C:C)+SUM($A:B)+C1:C1000000+2:2", "Tax!A1": "=Sheet1!C:C"})
        move_cells(book, "C1:C1000000", "tax!B1")
        self.assertEqual(book.text_of("E1"), "=SUM(Tax!B:B)+SUM($A:B)+Tax!B1:B1000000+2:2")
        self.assertEqual(book.text_of("Tax!A1"), "=Tax!B:B")
        move_cells(book, "1:2", "A5")
        self.assertEqual(book.text_of("E5"), "=SUM(Tax!B:B)+SUM($A:B)+Tax!B1:B1000000+6:6")
        self.stays(book, OffGrid, {"row": 1000001, "column": 1}, move_cells, book, "A:A", "A2")
        self.stays(book, OffGrid, {"row": 9, "column": 18279}, move_cells, book, "8:9", "B8")

    def test_errors(self):
        book = book_of({"A1": "1"})
        for call in (move_cells, copy_cells):
            for value in NO_BOOKS:
                self.bad(value, call, value, None, None)
            for value in NO_STRINGS:
                self.stays_bad(book, value, call, book, value, None)
                self.stays_bad(book, value, call, book, "??", value)
            self.stays(book, NotAName, {"name": "A1:"}, call, book, "A1:", "??")
            self.stays(book, Unknown, {"name": "none"}, call, book, "none!A1", "??")
            for place in ("", "A1:B2", "A:A", "A0"):
                self.stays(book, NotAName, {"name": place}, call, book, "A1", place)
            self.stays(book, Unknown, {"name": "none"}, call, book, "A1:B2", "none!ZZZ1")
            self.stays(book, OffGrid, {"row": 2, "column": 18279}, call, book, "A1:B2", "ZZZ1")
            self.stays(book, OffGrid, {"row": 1000001, "column": 18279}, call, book, "A1:B2", "ZZZ1000000")
            self.stays(book, OffGrid, {"row": 1000001, "column": 3}, call, book, "$B2:A1", "$B$1000000")
            call(book, "A1:B2", "ZZY999999")


class Copying(BookCase):
    def test_copies(self):
        book = book_of({"A1": "1", "A2": "=A1+$A$1+A$1+tax!A1+SUM(A:A)+$A1:B2+it.x", "B1": "'5", "Tax!B1": "=C1", "D3": "lost"},
                       {"it.x": "A1"}, ("Tax",))
        self.assertIsNone(copy_cells(book=book, area="A1:B2", place="C2"))
        self.texts(book, {"A1": "1", "A2": "=A1+$A$1+A$1+tax!A1+SUM(A:A)+$A1:B2+it.x", "B1": "'5", "Tax!B1": "=C1", "C2": "1",
                          "D2": "'5", "C3": "=C2+$A$1+C$1+tax!C2+SUM(C:C)+$A2:D3+it.x"})
        self.assertEqual(book.names(), {"it.x": "Sheet1!$A$1"})
        copy_cells(book, "A2", "tax!A1")
        self.assertEqual(book.text_of("tax!A1"), "=#REF+$A$1+A$1+#REF+SUM(A:A)+#REF+it.x")
        self.assertEqual(book.text_of("A2"), "=A1+$A$1+A$1+tax!A1+SUM(A:A)+$A1:B2+it.x")

    def test_onto_itself(self):
        book = book_of({"A1": "1", "A2": "=A1", "A3": "=A2"})
        copy_cells(book, "A1:A3", "A2")
        self.texts(book, {"A1": "1", "A2": "1", "A3": "=A2", "A4": "=A3"})
        book = book_of({"A2": "x", "A3": "=A2"})
        copy_cells(book, "A2:A3", "A1")
        self.texts(book, {"A1": "x", "A2": "=A1", "A3": "=A2"})
        copy_cells(book, "A3", "A3")
        self.worked(book, "")
        copy_cells(book, "A4:A5", "A1")
        self.texts(book, {"A3": "=A2"})

    def test_great_areas(self):
        book = book_of({"A1": "1", "A500000": "=A1", "B7": "x"})
        copy_cells(book, "A:A", "B1")
        self.texts(book, {"A1": "1", "A500000": "=A1", "B1": "1", "B500000": "=B1"})
        copy_cells(book, "1:1", "A9")
        self.texts(book, {"A1": "1", "A500000": "=A1", "B1": "1", "B500000": "=B1", "A9": "1", "B9": "1"})


class Facts(BookCase):
    def some_book(self, chance):
        book = Book()
        book.add_sheet("Tax")
        for _ in range(14):
            place = chance.choice(["", "", "Tax!"]) + chance.choice("BCDE") + str(chance.randint(2, 6))
            one, other = [chance.choice(["", "$"]) + chance.choice("BCDE") + chance.choice(["", "$"]) + str(chance.randint(2, 6))
                          for _ in range(2)]
            book.put(place, chance.choice(["5", "x", f"={one}+1", f"=SUM({one}:{other})", f"=Tax!{one}&Sheet1!{other}",
                                           f"={one}*it.x", "=SUM(C:C)", "=SUM(Tax!3:4)"]))
        book.define("it.x", "C3+1")
        return book

    def test_putting_in_and_taking_out_again(self):
        chance = random.Random(11)
        for _ in range(60):
            book = self.some_book(chance)
            before, many, at = book.copied(), chance.randint(1, 4), chance.randint(1, 8)
            for put_in, take_out in ((insert_rows, delete_rows), (insert_columns, delete_columns)):
                put_in(book, "Sheet1", at, many)
                take_out(book, "Sheet1", at, many)
                self.assertTrue(book == before)
            for is_first in (True, False):
                open_cells(book, "C3:D4", down=is_first)
                close_cells(book, "C3:D4", up=is_first)
                self.assertTrue(book == before)

    def test_moving_there_and_back(self):
        chance = random.Random(12)
        for _ in range(60):
            book = self.some_book(chance)
            before = book.copied()
            move_cells(book, "B2:D4", "H9")
            move_cells(book, "H9:J11", "B2")
            self.assertTrue(book == before)

    def test_values_go_along(self):
        chance = random.Random(13)
        for _ in range(60):
            book = self.some_book(chance)
            places = [place for place in book.holding() if place.startswith("Sheet1!") and "C:C" not in book.text_of(place)]
            fresh = book.copied()
            move_cells(fresh, "A1:F9", "A21")
            for place in places:
                self.check_value(book, place, fresh, place[:8] + str(int(place[8:]) + 20))
            fresh = book.copied()
            insert_rows(fresh, "Sheet1", 1, 5)
            for place in places:
                self.check_value(book, place, fresh, place[:8] + str(int(place[8:]) + 5))

    def check_value(self, book, place, fresh, other):
        if any("C:C" in book.text_of(one) for one in book.holding()):
            return
        try:
            value = book.value_of(place)
        except TooHigh:
            self.fails(TooHigh, {"most": 3000}, fresh.value_of, other)
            return
        self.assertTrue(same(value, fresh.value_of(other)), (place, book.text_of(place), fresh.text_of(other)))

    def test_copies_by_way_of_a_second_place(self):
        chance = random.Random(14)
        for _ in range(60):
            book = self.some_book(chance)
            straight, by_way = book.copied(), book.copied()
            copy_cells(straight, "B2:D4", "Tax!P20")
            copy_cells(by_way, "B2:D4", "H9")
            copy_cells(by_way, "H9:J11", "Tax!P20")
            for column in "PQR":
                for row in range(20, 23):
                    self.assertEqual(by_way.text_of(f"Tax!{column}{row}"), straight.text_of(f"Tax!{column}{row}"))
