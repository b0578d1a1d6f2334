"""[2], [55], [117]: areas continued."""

import random
from fractions import Fraction

from allinputs.errors import NotAName, TooHigh, TooMany, Unknown
from allinputs.filling import fill_cells
from allinputs.ratios import Ratio
from tests.books import BookCase, book_of
from tests.helper import fraction

LONG = "1/" + "3" * 990


class Filling(BookCase):
    def column(self, texts, area, onto):
        """The texts of column A behind a filling."""
        book = book_of({f"A{row}": text for row, text in texts.items()})
        fill_cells(book, area, onto)
        return [book.text_of(f"A{row}") for row in range(1, 9)]

    def test_lines_of_numbers(self):
        for texts, area, onto, told in (
                ({1: "1", 2: "2"}, "A1:A2", "A1:A5", ["1", "2", "3", "4", "5", "", "", ""]),
                ({1: "1", 2: "2", 3: "4"}, "A1:A3", "A1:A5", ["1", "2", "4", "16/3", "41/6", "", "", ""]),
                ({4: "5", 5: "3"}, "A4:A5", "A1:A5", ["11", "9", "7", "5", "3", "", "", ""]),
                ({1: "7", 2: "7", 3: "7"}, "A1:A3", "A1:A4", ["7", "7", "7", "7", "", "", "", ""]),
                ({1: "1/2", 2: "1/3"}, "$A$1:A2", "A1:$A3", ["0.5", "1/3", "1/6", "", "", "", "", ""]),
                ({6: "1", 7: "2", 8: "4"}, "A6:A8", "A5:A8", ["", "", "", "", "-2/3", "1", "2", "4"])):
            self.assertEqual(self.column(texts, area, onto), told)

    def test_least_squares(self):
        chance = random.Random(5)
        for _ in range(40):
            many = chance.randint(2, 6)
            numbers = [Fraction(chance.randint(-20, 20), chance.randint(1, 4)) for _ in range(many)]
            book = book_of({f"A{at + 9}": f"{number.numerator}/{number.denominator}" for at, number in enumerate(numbers)})
            fill_cells(book, f"A9:A{8 + many}", f"A9:A{12 + many}")
            fill_cells(book, f"A9:A{8 + many}", f"A5:A{8 + many}")
            middle = Fraction(many - 1, 2)
            average = sum(numbers) / many
            step = sum((at - middle) * number for at, number in enumerate(numbers)) / sum(
                (at - middle) ** 2 for at in range(many))
            for at in list(range(-4, 0)) + list(range(many, many + 4)):
                self.assertEqual(fraction(book.value_of(f"A{at + 9}")), average + (at - middle) * step)

    def test_all_others_by_copies_in_turn(self):
        for texts, area, onto, told in (
                ({1: "5"}, "A1", "A1:A3", ["5", "5", "5", "", "", "", "", ""]),
                ({1: "1", 2: "x"}, "A1:A2", "A1:A5", ["1", "x", "1", "x", "1", "", "", ""]),
                ({1: "1", 3: "3", 5: "z"}, "A1:A3", "A1:A8", ["1", "", "3", "1", "", "3", "1", ""]),
                ({7: "=B7", 8: "2"}, "A7:A8", "A4:A8", ["", "", "", "2", "=B5", "2", "=B7", "2"]),
                ({1: "=B1+B$1", 2: "TRUE"}, "A1:A2", "A1:A6", ["=B1+B$1", "TRUE", "=B3+B$1", "TRUE", "=B5+B$1", "TRUE", "", ""]),
                ({3: "=A2+A4+B3:B9", 2: "=5"}, "A2:A3", "A1:A3", ["=#REF+A2+B1:B7", "=5", "=A2+A4+B3:B9", "", "", "", "",
                                                                   ""]),
                ({8: "=A5"}, "A8", "A3:A8", ["", "", "=#REF", "=A1", "=A2", "=A3", "=A4", "=A5"]),
                ({1: "'5", 2: "'6"}, "A1:A2", "A1:A3", ["'5", "'6", "'5", "", "", "", "", ""]),
                ({1: "=1", 2: "=2"}, "A1:A2", "A1:A4", ["=1", "=2", "=1", "=2", "", "", "", ""])):
            self.assertEqual(self.column(texts, area, onto), told, texts)

    def test_each_line_by_itself(self):
        book = book_of({"A1": "1", "A2": "2", "B1": "x", "C1": "=A1", "C2": "=A2", "B4": "old"})
        self.assertIsNone(fill_cells(book=book, area="A1:C2", onto="A1:C4"))
        self.texts(book, {"A1": "1", "B1": "x", "C1": "=A1", "A2": "2", "C2": "=A2", "A3": "3", "B3": "x", "C3": "=A3", "A4": "4",
                          "C4": "=A4"})
        book = book_of({"B1": "1", "C1": "3", "B2": "=B$1", "C2": "5"})
        fill_cells(book, "B1:C2", "B1:E2")
        self.texts(book, {"B1": "1", "C1": "3", "D1": "5", "E1": "7", "B2": "=B$1", "C2": "5", "D2": "=D$1", "E2": "5"})
        fill_cells(book, "Sheet1!D1:E2", "A1:E2")
        self.texts(book, {"A1": "-1", "B1": "1", "C1": "3", "D1": "5", "E1": "7", "A2": "5", "B2": "=B$1", "C2": "5", "D2": "=D$1",
                          "E2": "5"})
        # What stands beside the area stays.
        for area, onto, fresh in (("B2:C3", "B2:C5", "B4 C4 B5 C5"), ("B2:C3", "B2:E3", "D2 E2 D3 E3"), ("D4:E5", "D2:E5", "D2 E2 D3 E3"),
                                  ("D4:E5", "B4:E5", "B4 C4 B5 C5")):
            book = book_of({letter + str(row): letter + str(row) for letter in "ABCDEF" for row in range(1, 7)})
            before = {place: book.text_of(place) for place in book.holding()}
            fill_cells(book, area, onto)
            changed = [place for place in book.holding() if book.text_of(place) != before[place]]
            self.assertEqual([place.removeprefix("Sheet1!") for place in changed], fresh.split())
        book = book_of({"Tax!A1": "1", "Tax!A2": "=B1"}, sheets=("Tax",))
        fill_cells(book, "tax!A1:A2", "TAX!A1:A3")
        self.texts(book, {"Tax!A1": "1", "Tax!A2": "=B1", "Tax!A3": "1"})

    def test_onto(self):
        book = book_of({"B2": "1", "B3": "2", "Tax!B2": "1"}, sheets=("Tax",))
        before = book.copied()
        fill_cells(book, "B2:B3", "B3:B2")
        self.assertTrue(book == before)
        self.worked(book, "")
        for onto in ("B1:B4", "B3:B4", "B2", "B2:C4", "A2:B5", "C2:C9", "A1:Z9", "tax!B2:B9", "B:B", "B4:B9", "B1:C3", "B3", "B3:B3", "A2:C2"):
            self.stays_bad(book, onto, fill_cells, book, "B2:B3", onto)
        # An area of several columns, neither at the beginning nor at the end, or greater than the other one.
        for onto in ("A2:F3", "C2:D3", "A2:D3", "B1:D4", "D2:D3", "C3:D3", "B2:C3"):
            self.stays_bad(book, onto, fill_cells, book, "B2:D3" if onto != "A2:D3" else "B2:C3", onto)
        for onto in ("B2:D3", "A2:B3", "B2:B9", "B1:B3"):
            copy = book.copied()
            fill_cells(copy, "B2:B3", onto)
            self.assertFalse(copy == before)

    def test_errors(self):
        book = book_of({"A1": "1", "A2": LONG, "B1": "x"})
        for value in (None, 1, "book"):
            self.bad(value, fill_cells, value, 1, 1)
        for value in (None, 1, True, ["A1"]):
            self.stays_bad(book, value, fill_cells, book, value, 1)
            self.stays_bad(book, value, fill_cells, book, "??", value)
        self.stays(book, NotAName, {"name": "A1:"}, fill_cells, book, "A1:", "??")
        self.stays(book, Unknown, {"name": "none"}, fill_cells, book, "none!A1", "??")
        self.stays(book, NotAName, {"name": "??"}, fill_cells, book, "A1", "??")
        self.stays(book, Unknown, {"name": "none"}, fill_cells, book, "A1", "none!A1")
        self.stays(book, TooMany, {"most": 10000}, fill_cells, book, "B1", "B1:B10001")
        self.stays(book, TooMany, {"most": 10000}, fill_cells, book, "B:B", "B:B")
        self.stays(book, TooMany, {"most": 10000}, fill_cells, book, "A:B", "A:C")
        onto = "B1:C10001"
        self.stays_bad(book, onto, fill_cells, book, "A1", onto)
        fill_cells(book, "B1", "B1:B10000")
        self.assertEqual(book.text_of("B10000"), "x")

    def test_long_numbers(self):
        numbers = ["1/" + str(10 ** 995 + at) for at in (7, 9, 11, 13, 17)]
        book = book_of({f"A{at + 1}": number for at, number in enumerate(numbers)})
        self.stays(book, TooHigh, {"most": 3000}, fill_cells, book, "A1:A5", "A1:A6")
        fill_cells(book, "A1:A2", "A1:A2")
        self.assertEqual(book.value_of("A1"), Ratio(1, 10 ** 995 + 7))
