"""[2], [15], [42], [100]: addresses."""

import re
from itertools import product

from allinputs.addresses import Address, address_text, column_of, letters_of, read_address
from allinputs.errors import NotAName, OffGrid
from allinputs.ratios import Ratio
from tests.helper import NO_INTEGERS, Case

ROWS, COLUMNS = 1000000, 18278
PATTERN = re.compile(r"(?:([A-Za-z][A-Za-z0-9]{0,11})!)?(\$?)([A-Za-z]{1,3})(\$?)([1-9][0-9]{0,5}|1000000)", re.ASCII)


def fields(address):
    return address.row, address.column, address.fixed_row, address.fixed_column, address.sheet


class Letters(Case):
    def test_columns(self):
        for column, letters in ((1, "A"), (2, "B"), (26, "Z"), (27, "AA"), (28, "AB"), (52, "AZ"), (53, "BA"), (702, "ZZ"),
                                (703, "AAA"), (704, "AAB"), (728, "AAZ"), (729, "ABA"), (18278, "ZZZ"), (18277, "ZZY")):
            self.assertEqual(letters_of(column), letters)
            self.assertEqual(column_of(letters), column)
            self.assertEqual(column_of(letters.lower()), column)
        self.assertEqual(letters_of(column=27), "AA")
        self.assertEqual(column_of(letters="aB"), 28)

    def test_all_columns(self):
        before = ""
        for column in range(1, COLUMNS + 1):
            letters = letters_of(column)
            self.assertEqual(column_of(letters), column)
            self.assertLess((len(before), before), (len(letters), letters))
            before = letters

    def test_wrong_arguments(self):
        for value in NO_INTEGERS + (0, -1, COLUMNS + 1):
            self.bad(value, letters_of, value)
        for value in (None, 1, True, ["A"], b"A", Ratio(1)):
            self.bad(value, column_of, value)
        for letters in ("", "AAAA", "A1", "1", " A", "A ", "$A", "\u00c4", "A\n", "\u0391", "A-B", "\u0131", "_", "[", "`"):
            self.fails(NotAName, {"name": letters}, column_of, letters)


class Addresses(Case):
    def test_attributes(self):
        self.assertEqual(fields(Address(7, 2)), (7, 2, False, False, None))
        made = Address(row=1, column=COLUMNS, sheet="Tax9", fixed_column=True)
        self.assertEqual(fields(made), (1, COLUMNS, False, True, "Tax9"))
        self.assertEqual(fields(Address(ROWS, 1, fixed_row=True, fixed_column=False, sheet=None)), (ROWS, 1, True, False, None))
        with self.assertRaises(TypeError):
            Address(1, 1, True)

    def test_wrong_arguments(self):
        for value in NO_INTEGERS:
            self.bad(value, Address, value, 1)
            self.bad(value, Address, value, 0, fixed_row=1)
            self.bad(value, Address, 0, value)
        for value in (0, 1, None, "x", Ratio(1), []):
            self.bad(value, Address, 1, 1, fixed_row=value)
            self.bad(value, Address, 1, 1, fixed_column=value)
            self.bad(value, Address, 0, 1, fixed_row=value, sheet="!")
        for value in ("", "1a", "a b", "a_b", "a" * 13, "$a", "\u00e4", "a\u00e4", "a!", 1, True, False, ["a"], b"a", "a.b", "a\u00b2"):
            self.bad(value, Address, 1, 1, sheet=value)
            self.bad(value, Address, 0, 1, sheet=value)
        for sheet in ("a", "Z", "a1", "A" * 12, "Sheet1", "x12345678901"):
            self.assertEqual(Address(1, 1, sheet=sheet).sheet, sheet)

    def test_off_the_grid(self):
        for row, column in ((0, 1), (1, 0), (-5, 1), (ROWS + 1, 1), (1, COLUMNS + 1), (0, 0), (10 ** 30, -1)):
            self.fails(OffGrid, {"row": row, "column": column}, Address, row, column)
            self.fails(OffGrid, {"row": row, "column": column}, Address, row, column, fixed_row=True, sheet="a")

    def test_equality(self):
        one = Address(3, 4, fixed_row=True, sheet="Tax")
        self.assertTrue(one == Address(3, 4, fixed_row=True, sheet="tAX"))
        for other in (Address(4, 4, fixed_row=True, sheet="Tax"), Address(3, 3, fixed_row=True, sheet="Tax"),
                      Address(3, 4, sheet="Tax"), Address(3, 4, fixed_row=True, fixed_column=True, sheet="Tax"),
                      Address(3, 4, fixed_row=True, sheet="Tax1"), Address(3, 4, fixed_row=True),
                      Address(4, 3, fixed_row=True, sheet="Tax"), Address(3, 4, fixed_column=True, sheet="Tax")):
            self.assertFalse(one == other)
            self.assertFalse(other == one)
        self.assertTrue(Address(1, 1) == Address(1, 1))
        for other in (None, "A1", (1, 1), 1):
            self.assertFalse(Address(1, 1) == other)

    def test_pushed(self):
        one = Address(5, 6, fixed_row=True, fixed_column=True, sheet="Tax")
        self.assertEqual(fields(one.pushed(2, -3)), (7, 3, True, True, "Tax"))
        self.assertEqual(fields(one.pushed(rows=-4, columns=0)), (1, 6, True, True, "Tax"))
        self.assertEqual(fields(Address(1, 1).pushed(ROWS - 1, COLUMNS - 1)), (ROWS, COLUMNS, False, False, None))
        for rows, columns in ((-5, 0), (0, -6), (ROWS - 4, 0), (0, COLUMNS - 5), (-5, -6), (10 ** 9, 10 ** 9)):
            self.fails(OffGrid, {"row": 5 + rows, "column": 6 + columns}, one.pushed, rows, columns)
        for value in NO_INTEGERS:
            self.bad(value, one.pushed, value, 0)
            self.bad(value, one.pushed, value, "y")
            self.bad(value, one.pushed, -9, value)
        self.assertEqual(fields(one), (5, 6, True, True, "Tax"))

    def test_bare(self):
        self.assertEqual(fields(Address(5, 6, fixed_row=True, fixed_column=True, sheet="Tax").bare()), (5, 6, False, False, None))

    def test_text(self):
        for row_mark, column_mark, sheet in product((False, True), (False, True), (None, "Sheet1", "tAx")):
            address = Address(7, 28, fixed_row=row_mark, fixed_column=column_mark, sheet=sheet)
            text = f"{sheet + '!' if sheet else ''}{'$' * column_mark}AB{'$' * row_mark}7"
            self.assertEqual(address_text(address), text)
            for written in (text, text.replace("AB", "ab"), text.replace("AB", "aB")):
                self.assertEqual(fields(read_address(written)), fields(address))
        self.assertEqual(address_text(address=Address(ROWS, COLUMNS)), "ZZZ1000000")
        self.assertEqual(fields(read_address(text="zzz1000000")), (ROWS, COLUMNS, False, False, None))
        self.assertEqual(fields(read_address("Sheet1!$B$7")), (7, 2, True, True, "Sheet1"))
        self.assertEqual(read_address("tAX!A1").sheet, "tAX")

    def test_texts_that_are_none(self):
        for text in ("", "A", "1", "A0", "A01", "A00", "01", "1A", "A1000001", "A9999999", "AAAA1", "A-1", "A 1", " A1", "A1 ",
                     "A1\n", "$A", "$$A1", "A$$1", "$1", "A1$", "A$", "!A1", "1x!A1", "x!", "x!!A1", "x!y!A1", "a_b!A1",
                     "a" * 13 + "!A1", "'x'!A1", "x !A1", "A1:B2", "A:A", "A1#", "\u00c41", "A\u0661", "A\u00b2", "A1.0", "R1C1",
                     "x!A0", "\u00e4!A1", "A" + "1" * 5000, "A1!", "A1!1", "-A1", "+A1", "=A1", "A1e1", "A1_0", "$", "$A$",
                     "$A$0", "A$01"):
            self.fails(NotAName, {"name": text}, read_address, text)
            self.assertIsNone(PATTERN.fullmatch(text))

    def test_all_short_texts(self):
        for many in range(6):
            for signs in product("aZ$10!", repeat=many):
                text = "".join(signs)
                found = PATTERN.fullmatch(text)
                if found is None:
                    self.fails(NotAName, {"name": text}, read_address, text)
                else:
                    sheet, column_mark, letters, row_mark, row = found.groups()
                    expected = (int(row), column_of(letters), row_mark == "$", column_mark == "$", sheet)
                    self.assertEqual(fields(read_address(text)), expected)

    def test_wrong_arguments_of_texts(self):
        for value in (None, 1, True, ["A1"], b"A1", Ratio(1), Address(1, 1)):
            self.bad(value, read_address, value)
        for value in (None, 1, True, "A1", (1, 1)):
            self.bad(value, address_text, value)
