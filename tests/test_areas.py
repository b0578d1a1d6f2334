"""[2], [16], [17], [18], [101]: areas."""

import itertools
import random

from allinputs.addresses import COLUMNS, ROWS, Address, address_text
from allinputs.areas import Area, area_text, read_area
from allinputs.errors import NotAName, TooMany
from tests.helper import Case

NO_AREAS = (None, 1, "A1", True, Address(1, 1), [], {}, object())
NO_ADDRESSES = (None, 1, "A1", True, (1, 1), [], {}, Area(Address(1, 1), Address(1, 1)))


def texts(areas):
    return [area_text(area) for area in areas]


def cells_in(area, rows=8, columns=8):
    """The cells of an area among the first ones of the grid."""
    return {(row, column) for row in range(1, rows + 1) for column in range(1, columns + 1)
            if area.has(Address(row, column))}


class Areas(Case):
    def test_corners_are_exchanged_and_marks_go_along(self):
        area = Area(Address(5, 3, fixed_row=True), Address(2, 1, fixed_column=True))
        self.assertEqual(area.first, Address(2, 1, fixed_column=True))
        self.assertEqual(area.last, Address(5, 3, fixed_row=True))
        area = Area(Address(5, 1, fixed_row=True, fixed_column=True), Address(2, 3))
        self.assertEqual((area.first, area.last), (Address(2, 1, fixed_column=True), Address(5, 3, fixed_row=True)))
        self.assertEqual((area.height, area.width, area.whole, area.sheet), (4, 3, None, None))
        self.assertEqual(Area(first=Address(2, 1), last=Address(1, 2), whole=None), read_area("A1:B2"))

    def test_equal_rows_and_columns_of_which_one_is_fixed(self):
        for one, other in itertools.product((False, True), repeat=2):
            area = Area(Address(4, 2, fixed_row=one), Address(4, 3, fixed_row=other))
            self.assertEqual((area.first.fixed_row, area.last.fixed_row), (one or other, one and other))
            area = Area(Address(4, 2, fixed_column=one), Address(3, 2, fixed_column=other))
            self.assertEqual((area.first.fixed_column, area.last.fixed_column), (one or other, one and other))

    def test_whole_columns_and_rows(self):
        area = Area(Address(7, 4, fixed_row=True, fixed_column=True), Address(3, 2, fixed_row=True), whole="columns")
        self.assertEqual((area.first, area.last), (Address(1, 2), Address(ROWS, 4, fixed_column=True)))
        self.assertEqual((area.height, area.width, area.whole), (ROWS, 3, "columns"))
        area = Area(Address(7, 4, fixed_row=True, fixed_column=True), Address(3, 2, fixed_column=True), whole="rows")
        self.assertEqual((area.first, area.last), (Address(3, 1), Address(7, COLUMNS, fixed_row=True)))
        self.assertEqual((area.height, area.width, area.whole), (5, COLUMNS, "rows"))

    def test_sheets(self):
        area = Area(Address(2, 2, sheet="Tax"), Address(1, 1))
        self.assertEqual((area.sheet, area.first.sheet, area.last.sheet), ("Tax", "Tax", "Tax"))
        area = Area(Address(2, 2, sheet="Tax"), Address(1, 1, sheet="tAX"))
        self.assertEqual((area.first.sheet, area.last.sheet), ("Tax", "Tax"))
        for last in (Address(1, 1, sheet="Tax2"), Address(1, 1, sheet="a")):
            self.bad(last, Area, Address(2, 2, sheet="Tax"), last)
            self.bad(last, Area, Address(2, 2), last)
            self.bad(last, Area, Address(2, 2), last, whole="both")

    def test_wrong_arguments(self):
        for value in NO_ADDRESSES:
            self.bad(value, Area, value, 1)
            self.bad(value, Area, Address(1, 1), value)
        for value in ("", "Columns", "row", True, 0, 1, ["rows"], Address(1, 1)):
            self.bad(value, Area, Address(1, 1), Address(1, 1), whole=value)

    def test_equality(self):
        self.assertTrue(read_area("A1:B2") == read_area("B2:A1"))
        self.assertTrue(read_area("A2:B1") == read_area("A1:B2"))
        self.assertTrue(read_area("tax!A:B") == read_area("TAX!B:A"))
        self.assertTrue(read_area("C$4:C4") == read_area("C4:C$4"))
        for one, other in (("A1:B2", "A1:B3"), ("A1:B2", "A1:B$2"), ("A1:B2", "t!A1:B2"), ("A:A", "A1:A1000000"),
                           ("1:1", "A1:ZZZ1"), ("A:ZZZ", "1:1000000"), ("s!A1", "t!A1")):
            self.assertFalse(read_area(one) == read_area(other), (one, other))
        for other in NO_AREAS + ("A1:B2",):
            self.assertFalse(read_area("A1:B2") == other)

    def test_has(self):
        area = read_area("B2:C4")
        for row, column in itertools.product(range(1, 6), range(1, 6)):
            self.assertIs(area.has(Address(row, column)), 2 <= row <= 4 and 2 <= column <= 3)
        self.assertIs(area.has(address=Address(2, 2, fixed_row=True, fixed_column=True, sheet="any")), True)
        self.assertIs(read_area("s!A1").has(Address(1, 1)), True)
        self.assertIs(read_area("s!A1").has(Address(1, 1, sheet="S")), True)
        self.assertIs(read_area("s!A1").has(Address(1, 1, sheet="t")), False)
        self.assertIs(read_area("B:C").has(Address(ROWS, 3)), True)
        self.assertIs(read_area("2:3").has(Address(4, 1)), False)
        for value in NO_ADDRESSES:
            self.bad(value, area.has, value)

    def test_cells(self):
        cells = read_area("tax!$B$2:C3").cells()
        self.assertIs(type(cells), tuple)
        self.assertEqual([address_text(cell) for cell in cells], ["tax!B2", "tax!C2", "tax!B3", "tax!C3"])
        self.assertEqual(read_area("C7").cells(), (Address(7, 3),))
        self.assertEqual(len(read_area("A1:CV100").cells()), 10000)
        for text in ("A1:A10001", "A1:CV101", "A:A", "1:1"):
            self.fails(TooMany, {"most": 10000}, read_area(text).cells)


class Texts(Case):
    def test_texts_read_and_written(self):
        for text, told in (("A1", None), ("$A$1", None), ("Sheet1!B$7", None), ("A1:B2", None), ("a1:b2", "A1:B2"),
                           ("B:C", None), ("$b:c", "$B:C"), ("c:$b", "$B:C"), ("2:5", None), ("$5:2", "2:$5"),
                           ("tax!2:$5", None), ("tax!A:$ZZZ", None), ("A1:A1", "A1"), ("$A1:A1", "$A1:A1"),
                           ("C4:$C$4", "$C$4:C4"), ("B:B", None), ("$B:$B", None), ("7:7", None), ("A1000000", None),
                           ("ZZZ1000000:A1", "A1:ZZZ1000000"), ("Tax9!$B$2:$C$3", None), ("A1:A1000000", None)):
            area = read_area(text)
            self.assertEqual(area_text(area), told or text)
            self.assertEqual(read_area(area_text(area)), area)
        self.assertEqual(area_text(area=read_area(text="A1")), "A1")
        self.assertIsNone(read_area("A1:A1000000").whole)

    def test_texts_that_are_none(self):
        for text in ("", "A", "1", "A0", "A01", "A1000001", "AAAA1", "A1:", ":A1", "A1:B", "A:1", "A:B2", "1:A", "A1:2",
                     "A1:B2:C3", "A1::B2", "A1 :B2", " A1", "A1 ", "0:1", "1:01", "1:1000001", "A$:B", "$$A1", "A$$1",
                     "!A1", "a b!A1", "1a!A1", "sheetnumber12!A1", "a!b!A1", "A1:a!B2", "A1#", "$1:$", "A:B$", "$:A",
                     "R1C1:", "a b!A:B", "1a!2:3", "a_b!A1:B2", "!A:B", "\u00c41", "A\u0661", "x!", "x!:", "A1:$", "A$1:B"):
            self.fails(NotAName, {"name": text}, read_area, text)
        for value in NO_AREAS[:2] + (True, [], Address(1, 1)):
            self.bad(value, read_area, value)
        for value in NO_AREAS:
            self.bad(value, area_text, value)


class Parts(Case):
    def test_common(self):
        for one, other, told in (
                ("A1:C3", "B2:D4", "B2:C3"), ("A1:C3", "D4", None), ("A1:C3", "C3:D4", "C3"), ("B:D", "2:5", "B2:D5"),
                ("B:D", "C:Z", "C:D"), ("2:5", "4:9", "4:5"), ("B:D", "A1:C1000000", "B1:C1000000"),
                ("$A$1:$B$2", "$A$1:$B$2", "A1:B2"), ("s!A1:B2", "B2", "s!B2"), ("A1:B2", "s!B2", "s!B2"),
                ("s!A1:B2", "S!B2", "s!B2"), ("s!A1:B2", "t!B2", None), ("B:D", "tax!2:5", "tax!B2:D5"),
                ("A1:A3", "B1:B3", None), ("A1:B1", "A2:B2", None), ("A:ZZZ", "1:1000000", "A1:ZZZ1000000")):
            found = read_area(one).common(read_area(other))
            self.assertEqual(None if found is None else area_text(found), told)
        for value in NO_AREAS:
            self.bad(value, read_area("A1").common, value)
            self.bad(value, read_area("A1").without, value)

    def test_without(self):
        for one, other, told in (
                ("A1:E5", "B2:D4", ["A1:E1", "A5:E5", "A2:A4", "E2:E4"]), ("A1:C3", "A1:C3", []),
                ("A1:C3", "Z9", ["A1:C3"]), ("$A$1:C3", "Z9", ["A1:C3"]), ("A1:C3", "A1:C1", ["A2:C3"]),
                ("A1:C3", "A3:C9", ["A1:C2"]), ("A1:C3", "A1:A3", ["B1:C3"]), ("A1:C3", "C1:D9", ["A1:B3"]),
                ("B:D", "$C2:Z9", ["B1:D1", "B10:D1000000", "B2:B9"]), ("B:D", "C:C", ["B:B", "D:D"]),
                ("2:5", "3:3", ["2:2", "4:5"]), ("2:5", "B3", ["2:2", "4:5", "A3", "C3:ZZZ3"]),
                ("$B:D", "Z:Z", ["B:D"]), ("2:5", "tax!9:9", ["2:5"]), ("s!A1:B2", "t!A1:B2", ["s!A1:B2"]),
                ("s!A1:B2", "A1", ["s!A2:B2", "s!B1"]), ("A1:B2", "t!A1", ["A2:B2", "B1"]),
                ("B1:B1000000", "B5", ["B1:B4", "B6:B1000000"]), ("B:D", "B1:C1000000", ["D:D"])):
            found = read_area(one).without(read_area(other))
            self.assertIs(type(found), tuple)
            self.assertEqual(texts(found), told, (one, other))

    def test_parts_make_up_the_area(self):
        chance = random.Random(5)
        for _ in range(200):
            one, other = [Area(Address(chance.randint(1, 8), chance.randint(1, 8)),
                               Address(chance.randint(1, 8), chance.randint(1, 8))) for _ in range(2)]
            shared = one.common(other)
            parts = [cells_in(part) for part in one.without(other)]
            self.assertEqual(set() if shared is None else cells_in(shared), cells_in(one) & cells_in(other))
            self.assertEqual(sum(len(part) for part in parts), len(cells_in(one) - cells_in(other)))
            self.assertEqual(set().union(*parts), cells_in(one) - cells_in(other))
