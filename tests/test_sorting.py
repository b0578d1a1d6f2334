"""[2], [14], [56], [118]: rows of cells sorted."""

from allinputs.errors import NotAName, TooHigh, TooMany, Unknown
from allinputs.sorting import sort_rows
from tests.books import BookCase, book_of

MIXED = ["x", "3", "", "TRUE", "=#NA", "1", "B", "", "FALSE", "b", "=1/0"]


def column(book, letter="A", many=11):
    return [book.text_of(f"{letter}{row}") for row in range(1, many + 1)]


class Sorting(BookCase):
    def test_one_column(self):
        cells = {f"A{at + 1}": text for at, text in enumerate(MIXED)}
        cells.update({f"B{at + 1}": str(at) for at in range(len(MIXED))})
        book = book_of(cells)
        self.assertIsNone(sort_rows(book=book, area="A1:B11", by=[(1, False)]))
        self.assertEqual(column(book), ["1", "3", "B", "b", "x", "FALSE", "TRUE", "=#NA", "=1/0", "", ""])
        self.assertEqual(column(book, "B"), ["5", "1", "6", "9", "0", "8", "3", "4", "10", "2", "7"])
        book = book_of(cells)
        sort_rows(book, "B11:A1", ((1, True),))
        self.assertEqual(column(book), ["=#NA", "=1/0", "TRUE", "FALSE", "x", "B", "b", "3", "1", "", ""])
        self.assertEqual(column(book, "B"), ["4", "10", "3", "8", "0", "6", "9", "1", "5", "2", "7"])
        sort_rows(book, "A1:B11", [[2, False]])
        self.assertEqual(column(book), MIXED)

    def test_several_columns(self):
        rows = [("b", "2"), ("a", "1"), ("B", "1"), ("", "5"), ("a", "3"), ("A", ""), ("a", "2")]
        cells = {}
        for at, (one, other) in enumerate(rows):
            cells.update({f"A{at + 1}": one, f"B{at + 1}": other, f"C{at + 1}": str(at)})
        for by, told in (([(1, False), (2, True)], "4615023"), ([(1, True), (2, False)], "2016453"), ([(2, False)], "1206435"),
                         ([(1, False), (1, True), (3, True)], "6541203"), ([(1, False)] * 8, "1456023"),
                         ([(2, True), (1, False)], "3460125")):
            book = book_of(cells)
            sort_rows(book, "A1:C7", by)
            self.assertEqual("".join(column(book, "C", 7)), told, by)

    def test_an_area_somewhere(self):
        book = book_of({"C5": "2", "D5": "x", "E5": "a", "C6": "1", "D6": "y", "E6": "b", "C7": "3", "D7": "w", "E7": "c", "B5": "p",
                        "F7": "q", "C4": "9", "D8": "v"})
        for by, told in (([(1, False)], "bac"), ([(2, False)], "cab"), ([(3, False)], "abc"), ([(2, True)], "bac")):
            sort_rows(book, "C5:E7", by)
            self.assertEqual("".join(book.text_of(f"E{row}") for row in range(5, 8)), told)
        self.texts(book, {"C4": "9", "B5": "p", "C5": "1", "D5": "y", "E5": "b", "C6": "2", "D6": "x", "E6": "a", "C7": "3", "D7": "w",
                          "E7": "c", "F7": "q", "D8": "v"})
        for pair in ((4, True), (0, True)):
            self.stays_bad(book, pair, sort_rows, book, "C5:E7", [pair])

    def test_formulas_go_along(self):
        book = book_of({"A1": "3", "B1": "=A1+$A$1+D1", "A2": "1", "B2": "=A1", "A3": "=A2+1", "D1": "=A1+SUM(A1:A3)"}, {"it.x": "A1"})
        sort_rows(book, "A1:B3", [(1, False)])
        # The values ahead of the edit count: 3, 1, 2.
        self.texts(book, {"A1": "1", "B1": "=#REF", "A2": "=A1+1", "A3": "3", "B3": "=A3+$A$1+D3", "D1": "=A1+SUM(A1:A3)"})
        self.assertEqual(book.names(), {"it.x": "Sheet1!$A$1"})
        self.values(book, {"A2": 2})
        book = book_of({"A1": "={3;1}", "B1": "x", "B2": "y"})
        # What is spilled into a cell is its value, too.
        sort_rows(book, "A1:B2", [(1, False)])
        self.texts(book, {"B1": "y", "A2": "={3;1}", "B2": "x"})
        book = book_of({"Tax!A1": "2", "Tax!A2": "1"}, sheets=("Tax",))
        sort_rows(book, "tax!A1:A2", [(1, False)])
        self.texts(book, {"Tax!A1": "1", "Tax!A2": "2"})
        sort_rows(book, "tax!A1:A2", [(1, False)])
        self.worked(book, "")

    def test_errors(self):
        book = book_of({"A1": "2", "A2": "=10^64^50", "B1": "1", "B2": "0"})
        for value in (None, 1, "book"):
            self.bad(value, sort_rows, value, 1, 1)
        for value in (None, 1, True, ["A1"]):
            self.stays_bad(book, value, sort_rows, book, value, 1)
        self.stays(book, NotAName, {"name": "A1:"}, sort_rows, book, "A1:", None)
        self.stays(book, Unknown, {"name": "none"}, sort_rows, book, "none!A1", None)
        for value in (None, 1, "ab", {}, [], (), [(1, True)] * 9):
            self.stays_bad(book, value, sort_rows, book, "A1:B2", value)
            self.stays_bad(book, value, sort_rows, book, "A:B", value)
        for pair in (None, 1, (1,), (1, True, 2), (0, True), (3, True), (1, 1), (True, True), ("1", True), (1, None), "ab", {}):
            self.stays_bad(book, pair, sort_rows, book, "A1:B2", [(1, True), pair, None])
            self.stays_bad(book, pair, sort_rows, book, "A1:B2", [pair] * 9)
        self.stays(book, TooMany, {"most": 10000}, sort_rows, book, "A:A", [(1, True)])
        self.stays(book, TooMany, {"most": 10000}, sort_rows, book, "A1:B5001", [(1, True)])
        self.stays(book, TooHigh, {"most": 3000}, sort_rows, book, "A1:B2", [(2, True), (1, True)])
        sort_rows(book, "A1:B5000", [(2, False)])
        self.texts(book, {"A1": "=10^64^50", "B1": "0", "A2": "2", "B2": "1"})
        sort_rows(book, "A1:B1", [(2, True)])
