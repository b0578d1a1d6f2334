"""[42] to [44], [77], [133]: texts of books."""

import random

from allinputs.bookfile import book_text, read_book
from allinputs.book import Book
from allinputs.errors import BadFile
from allinputs.ratios import Ratio
from allinputs.working import fresh_values
from tests.books import BookCase, as_told, book_of

TEXT = (
    "sheet Sheet1\nB1 7/3\nA2 '5\nC2 =SUM(A1:B9)*rate\nAA2 text with  spaces \nsheet Tax\nB3 TRUE\nsheet Empty\n"
    "name rate Tax!$B$3+1\nname zz_9 \"a\"\n"
)


class Written(BookCase):
    def test_line_by_line(self):
        book = book_of({"C2": "=sum(a1:b9) * RATE", "B1": "14/6", "AA2": "text with  spaces ", "A2": "'5", "tax!b3": "true"},
                       names={"zz_9": "\"a\"", "Rate": "Tax!B3+1"}, sheets=("Tax", "Empty"))
        self.assertEqual(book_text(book), TEXT)

    def test_least_books(self):
        self.assertEqual(book_text(Book()), "sheet Sheet1\n")
        self.assertEqual(book_text(book=book_of({}, names={"a": "1"})), "sheet Sheet1\nname a 1\n")

    def test_order_of_cells(self):
        book = book_of({"Z1": "1", "AA1": "2", "B10": "3", "C2": "4", "A10": "5"})
        self.assertEqual(book_text(book), "sheet Sheet1\nZ1 1\nAA1 2\nC2 4\nA10 5\nB10 3\n")

    def test_wrong_arguments(self):
        for value in (None, 1, "sheet A\n"):
            self.bad(value, book_text, value)


class Read(BookCase):
    def test_what_is_written_is_read(self):
        book = read_book(TEXT)
        self.assertEqual(book.sheets(), ("Sheet1", "Tax", "Empty"))
        self.assertEqual(book.names(), {"rate": "Tax!$B$3+1", "zz_9": '"a"'})
        self.assertEqual(book_text(book), TEXT)
        self.values(book, {"C2": Ratio(14, 3), "AA2": "text with  spaces ", "Tax!B3": True})

    def test_equal_with_the_same_values(self):
        chance = random.Random(9)
        contents = ["1", "2.5", "'x", "''", "'", "TRUE", "=A1+B2", "=SUM(A:A)", "=rate*2", "=\"a \"\" b\"", "=Tax!A1", "-1/3",
                    "= {1,2;3,4}", "=IF(A1>1,B1,\"\")", "plain", " spaced ", "=A1#", "'=1+1", "'TRUE", "1e3", "x=1"]
        for _ in range(40):
            cells = {f"{chance.choice(['', 'Tax!'])}{chance.choice('ABC')}{chance.randint(1, 4)}": chance.choice(contents)
                     for _ in range(chance.randint(0, 12))}
            book = book_of(cells, names={"rate": "A1+1"} if chance.random() < 0.5 else {}, sheets=("Tax",))
            other = read_book(book_text(book))
            self.assertTrue(other == book)
            self.assertEqual({place: as_told(value) for place, value in fresh_values(other).items()},
                             {place: as_told(value) for place, value in fresh_values(book).items()})

    def test_other_orders(self):
        text = "name b a1*2\nsheet one\nc3 5\na1 =b\nname A \"x\"\nsheet Two\nb2 =one!c3\nA1 1"
        book = read_book(text)
        self.assertEqual(book.sheets(), ("one", "Two"))
        self.assertEqual(book.names(), {"a": '"x"', "b": "one!$A$1*2"})
        self.assertEqual(book.holding(), ("one!A1", "one!C3", "Two!A1", "Two!B2"))
        self.assertTrue(read_book(text + "\n") == book)

    def test_sheets_called_as_the_first_one_was(self):
        book = read_book("sheet Other\nA1 1\nsheet Sheet1\nA1 2\n")
        self.assertEqual([book.text_of("A1"), book.text_of("Sheet1!A1")], ["1", "2"])
        self.assertEqual(read_book("sheet SHEET1\n").sheets(), ("SHEET1",))

    def test_contents_as_put_reads_them(self):
        book = read_book("sheet A\nA1 =1+1\nA2 '=1\nA3  x\nA4 0.50\nA5 true\nA6 sheet B\nA7 '\nA8 name x\n")
        self.assertEqual([book.text_of(f"A{row}") for row in range(1, 9)],
                         ["=1+1", "'=1", " x", "0.5", "TRUE", "sheet B", "'", "name x"])

    def wrong(self, text, line, at):
        self.fails(BadFile, {"line": line, "at": at}, read_book, text)

    def test_beginnings_of_lines(self):
        for line in ("", " ", "sheet", "name", "Sheet A", "NAME x 1", "A0 1", "A1", "$A1 1", "A$1 1", "A!A1 1", "AAAA1 1", "A01 1",
                     "A1000001 1", "A1:A2 1", "A:A 1", "x", "=1", " A1 1", "A1\"1", "1 1", "ZZZZ1 1"):
            self.wrong("sheet A\nB1 1\n" + line + "\n", 3, 0)
        self.wrong("A1 5\nsheet A\n", 1, 0)
        self.wrong("sheet A\nA1 5\nB1 6\na1 5\n", 4, 0)
        self.wrong("name a 1\nA1 5\n", 2, 0)
        self.assertEqual(len(read_book("sheet A\nA1 1\nsheet B\nA1 1\nZZ1 1\n").holding()), 3)

    def test_texts_without_a_sheet(self):
        self.wrong("", 1, 0)
        self.wrong("\n", 1, 0)
        self.wrong("name a 1", 2, 0)
        self.wrong("name a 1\nname b 2\n", 3, 0)

    def test_sheets(self):
        for name in ("", "1a", "a b", "abcdefghijklm", "a!", " A", "A ", "a_b", "sheet A"):
            self.wrong(f"sheet ok\nsheet {name}\n", 2, 6)
        self.wrong("sheet ab\nsheet AB\n", 2, 6)
        self.wrong("sheet A\nA1 5\nsheet a\n", 3, 6)

    def test_names(self):
        for line in ("name ", "name  x 1", "name 1a 1", "name A1 1", "name R2C3 1", "name true 1", "name a! 1", "name rc", "name r 1"):
            self.wrong(f"sheet A\n{line}\n", 2, 5)
        self.wrong("sheet A\nname b 1\nname d 1\nname B 2\n", 4, 5)
        self.wrong("sheet A\nname abc\n", 2, 8)
        self.wrong("sheet A\nname abc \n", 2, 9)
        self.wrong("sheet A\nname abc   \n", 2, 11)
        self.wrong("sheet A\nname abc 1+\n", 2, 11)
        self.wrong("sheet A\nname abc =1\n", 2, 9)
        self.wrong("sheet A\nname abc A0+1\n", 2, 11)
        self.wrong("sheet A\nname a " + "(" * 61 + "\n", 2, 7)
        self.wrong("sheet A\nname a " + "-" * 60 + "1\n", 2, 7)
        self.wrong("sheet A\nname a " + "1+" * 999 + "11\n", 2, 7)
        self.assertEqual(len(read_book("sheet A\nname a \"" + "x" * 1000 + "\"\n").names()["a"]), 1002)
        text = "1" + " " * 1998
        self.assertEqual(read_book(f"sheet A\nname a {text}\n").names(), {"a": "1"})
        self.wrong(f"sheet A\nname a {text} \n", 2, 7)

    def test_contents(self):
        self.wrong("sheet A\nAB12 \n", 2, 5)
        self.wrong("sheet A\nA1 1\nAB12 =\n", 3, 6)
        self.wrong("sheet A\nA1 =1+\n", 2, 6)
        self.wrong("sheet A\nA1 =A0+1\n", 2, 6)
        self.wrong("sheet A\nA1 =" + "(" * 61 + "\n", 2, 3)
        self.wrong("sheet A\nA1 =" + "-" * 60 + "1\n", 2, 3)
        self.wrong("sheet A\nA1 " + "x" * 1001 + "\n", 2, 3)
        self.wrong("sheet A\nA1 '" + "x" * 1001 + "\n", 2, 3)
        self.wrong("sheet A\nA1 =1" + " " * 1999 + "\n", 2, 3)
        book = read_book("sheet A\nA1 '" + "x" * 1000 + "\nA2 " + "y" * 1000 + "\nA3 =1" + " " * 1998)
        self.assertEqual([len(book.text_of(f"A{row}")) for row in (1, 2, 3)], [1000, 1000, 2])

    def test_the_first_wrong_line_counts(self):
        self.wrong("sheet A\nA1 =(\nsheet 1\n", 2, 5)
        self.wrong("sheet A\nA1 1\nA1 =(\n", 3, 0)
        self.wrong("sheet 1\nA1 =(\n", 1, 6)

    def test_wrong_arguments(self):
        for value in (None, 1, ["sheet A"], "sheet A\nA1 \u00e4\n", "sheet A\r\n", "\t"):
            self.bad(value, read_book, value)
        self.assertTrue(read_book(text="sheet Sheet1") == Book())
