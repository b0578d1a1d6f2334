"""[2], [42], [43], [44], [46], [47], [111]: books."""

from allinputs.book import Book
from allinputs.errors import NotAFormula, NotAName, Taken, TooHigh, TooMany, Unknown
from allinputs.ratios import Ratio
from allinputs.working import last_worked
from tests.books import BookCase, book_of
from tests.helper import root_member

NO_STRINGS = (None, 1, True, ["A1"], ("A1",), b"A1", Ratio(1), {})
NO_PLACES = ("", "A", "1", "A0", "A1:B2", "A1 ", "$", "Sheet1", "Sheet1!", "ZZZZ1", "A1000001", "a b!A1", "A1#")


class Contents(BookCase):
    def test_texts_of_contents(self):
        book = Book()
        for text, told, value in (
                ("5", "5", 5), (" 5 ", "5", 5), ("-.50", "-0.5", Ratio(-1, 2)), ("2e3", "2000", 2000), ("4/6", "2/3", Ratio(2, 3)),
                ("true", "TRUE", True), ("False", "FALSE", False), ("abc", "abc", "abc"), (" x", " x", " x"), ("'5", "'5", "5"),
                ("'", "'", ""), ("''", "''", "'"), ("'abc", "abc", "abc"), ("'=1", "'=1", "=1"), ("'tRue", "'tRue", "tRue"),
                ("'5x", "5x", "5x"), ("= 1 + a1 ", "=1+A1", None), ("=sum(b:b)", "=SUM(B:B)", 0), ("1e5x", "1e5x", "1e5x"),
                (Ratio(-7, 4), "-1.75", Ratio(-7, 4)), (7, "7", 7), (True, "TRUE", True), (False, "FALSE", False), ("TRUE ", "TRUE ",
                 "TRUE "), ("x" * 1000, "x" * 1000, "x" * 1000), ("'" + "x" * 1000, "x" * 1000, "x" * 1000),
                (Ratio(10 ** 999), "1" + "0" * 999, Ratio(10 ** 999))):
            book.put("C3", text)
            self.assertEqual(book.text_of("C3"), told)
            if value is not None:
                self.values(book, {"c3": value})
            # The text of a content stands for it.
            other = Book()
            other.put("C3", book.text_of("C3"))
            self.assertTrue(other == book)
        book.put("C3", "")
        self.assertEqual((book.text_of("C3"), book.value_of("C3"), book.holding()), ("", None, ()))

    def test_contents_that_are_none(self):
        book = book_of({"A1": "1"})
        for value in (None, 1.5, [], ("1",), b"1", {}, root_member(), "a\n", "\t", "x" * 1001, "'" + "x" * 1001, "''" + "x" * 1000,
                      "=" + "1" * 2000, 10 ** 1000, Ratio(1, 10 ** 1000), Ratio(10 ** 3000), -10 ** 999, "1" * 1001, "\u00e4"):
            self.stays_bad(book, value, book.put, "A1", value)
            self.stays_bad(book, value, book.put, "??", value)
        book.put("A1", -10 ** 998)
        book.put(place="A1", content="=" + "1" * 1999)

    def test_errors_of_put_in_order(self):
        book = book_of({"A1": "1"})
        for value in NO_STRINGS:
            for call, more in ((book.put, (None,)), (book.text_of, ()), (book.value_of, ())):
                self.stays_bad(book, value, call, value, *more)
        for place in NO_PLACES:
            self.stays(book, NotAName, {"name": place}, book.put, place, "=" + "(" * 61)
            self.stays(book, NotAName, {"name": place}, book.text_of, place)
            self.stays(book, NotAName, {"name": place}, book.value_of, place=place)
        for place, name in (("sheet2!A1", "sheet2"), ("TAX!A1", "TAX")):
            self.stays(book, Unknown, {"name": name}, book.put, place, "=" + "(" * 61)
            self.stays(book, Unknown, {"name": name}, book.text_of, place)
            self.stays(book, Unknown, {"name": name}, book.value_of, place)
        self.stays(book, TooMany, {"most": 60}, book.put, "A1", "=" + "(" * 61)
        self.stays(book, TooMany, {"most": 60}, book.put, "A1", "=" + "-" * 60 + "1")
        self.stays(book, NotAFormula, {"at": 3}, book.put, "A1", "=1+")
        self.stays(book, NotAFormula, {"at": 2}, book.put, "A1", "=1\n")

    def test_places(self):
        book = book_of({"$b$7": "1", "sheet1!C$2": "2"}, sheets=("Tax",))
        book.put("tAx!A1", "3")
        self.assertEqual(book.holding(), ("Sheet1!C2", "Sheet1!B7", "Tax!A1"))
        self.assertIs(type(book.holding()), tuple)
        self.values(book, {"SHEET1!b7": 1, "TAX!$A$1": 3, "A1": None})
        for place in ("B10", "A9", "C2", "AA2", "ZZZ1000000"):
            book.put(place, "x")
        self.assertEqual(book.holding(), ("Sheet1!C2", "Sheet1!AA2", "Sheet1!B7", "Sheet1!A9", "Sheet1!B10",
                                          "Sheet1!ZZZ1000000", "Tax!A1"))

    def test_equality_and_copies(self):
        cells = {"A1": "1", "B1": "=A1+rate", "B2": "'x"}
        book, other = book_of(cells, {"rate": "A1"}, ("Tax",)), book_of(dict(reversed(cells.items())), {"RATE": "a1"}, ("Tax",))
        self.assertTrue(book == other)
        for change in (lambda one: one.put("A1", "2"), lambda one: one.put("A9", "'"), lambda one: one.put("A1", ""),
                       lambda one: one.define("rate", "A2"), lambda one: one.define("other", "1"),
                       lambda one: one.undefine("rate"), lambda one: one.rename_sheet("Tax", "tax"),
                       lambda one: one.add_sheet("More"), lambda one: one.drop_sheet("Tax")):
            copy = book.copied()
            self.assertTrue(copy == book)
            self.assertEqual(last_worked(copy), last_worked(book))
            change(copy)
            self.assertFalse(copy == book)
            self.assertTrue(book == other)
        for thing in (None, 1, "book", book.holding()):
            self.assertFalse(book == thing)
        one, two = book_of({}, sheets=("A", "B")), book_of({}, sheets=("B", "A"))
        self.assertFalse(one == two)
        self.assertTrue(book_of({"A1": "2.0"}) == book_of({"A1": "4/2"}))
        self.assertFalse(book_of({"A1": "=sheet1!A1"}) == book_of({"A1": "=Sheet1!A1"}))

    def test_nothing_is_returned(self):
        book = Book()
        for call, arguments in ((book.put, ("A1", "1")), (book.add_sheet, ("T",)), (book.rename_sheet, ("T", "U")),
                                (book.drop_sheet, ("U",)), (book.define, ("x", "1")), (book.undefine, ("x",))):
            self.assertIsNone(call(*arguments))


class Sheets(BookCase):
    def test_added(self):
        book = book_of({"A1": "=tax!B1+1", "A2": "=SUM(TAX!B:B)"})
        self.values(book, {"A1": "#REF", "A2": "#REF"})
        book.add_sheet("Tax")
        self.assertEqual(book.sheets(), ("Sheet1", "Tax"))
        self.values(book, {"A1": 1, "A2": 0})
        self.worked(book, "A1 A2")
        book.put("tax!B1", "5")
        self.values(book, {"A1": 6, "A2": 5})
        for name in ("", "1a", "a b", "a_b", "sheetnumber12", "a!", "\u00e4", "Tax!"):
            self.stays(book, NotAName, {"name": name}, book.add_sheet, name)
        for name in ("tax", "TAX", "sheet1", "Sheet1"):
            self.stays(book, Taken, {"name": name}, book.add_sheet, name)
        for value in NO_STRINGS:
            self.stays_bad(book, value, book.add_sheet, value)
        book.add_sheet(name="abcdefghijk1")
        self.assertEqual(book.sheets()[2], "abcdefghijk1")

    def test_renamed(self):
        book = book_of({"A1": "=tax!B1+TAX!$B:B+B1+other!A1", "Tax!B1": "=sheet1!B1+Tax!B2#", "B1": "4"}, {"n": "tAx!A1+1"},
                       ("Tax",))
        book.rename_sheet("TAX", "Toll")
        self.assertEqual(book.sheets(), ("Sheet1", "Toll"))
        self.texts(book, {"A1": "=Toll!B1+Toll!$B:B+B1+other!A1", "B1": "4", "Toll!B1": "=sheet1!B1+Toll!B2#"})
        self.assertEqual(book.names(), {"n": "Toll!$A$1+1"})
        self.worked(book, "Toll!B1 A1")
        book.rename_sheet("toll", "TOLL")
        self.assertEqual(book.sheets(), ("Sheet1", "TOLL"))
        self.assertEqual(book.text_of("A1"), "=TOLL!B1+TOLL!$B:B+B1+other!A1")
        book.rename_sheet(name="Toll", fresh="TOLL")
        self.worked(book, "")
        book.put("A2", "=toll!A1")
        book.rename_sheet("TOLL", "TOLL")
        self.assertEqual(book.text_of("A2"), "=toll!A1")
        self.stays(book, Unknown, {"name": "tax"}, book.rename_sheet, "tax", "??")
        self.stays(book, NotAName, {"name": "1"}, book.rename_sheet, "toll", "1")
        self.stays(book, Taken, {"name": "sheet1"}, book.rename_sheet, "toll", "sheet1")
        for value in NO_STRINGS:
            self.stays_bad(book, value, book.rename_sheet, value, 1)
            self.stays_bad(book, value, book.rename_sheet, "??", value)

    def test_one_of_several(self):
        for at, name in enumerate(("Sheet1", "B", "C", "D")):
            book = book_of({"A1": "1", "B!A1": "=A1", "C!A1": "2", "D!A1": f"={name}!A2"}, sheets=("B", "C", "D"))
            tabs = list(book.sheets())
            book.rename_sheet(name, "New")
            tabs[at] = "New"
            self.assertEqual(book.sheets(), tuple(tabs))
            self.assertEqual(book.holding(), tuple(f"{tab}!A1" for tab in tabs))
            self.assertEqual([book.text_of(f"{tab}!A1") for tab in tabs], ["1", "=A1", "2", "=New!A2"])
            book.drop_sheet("new")
            del tabs[at]
            texts = ["1", "=A1", "2", "=#REF"]
            del texts[at]
            self.assertEqual(book.sheets(), tuple(tabs))
            self.assertEqual([book.text_of(f"{tab}!A1") for tab in tabs], texts)

    def test_a_name_that_was_missing(self):
        book = book_of({"A1": "=tax!A1", "Other!A1": "7"}, sheets=("Other",))
        book.rename_sheet("Other", "Tax")
        self.values(book, {"A1": 7})

    def test_dropped(self):
        book = book_of({"A1": "=tax!B1+TAX!$B:B+B1", "Tax!B1": "5", "Last!A1": "=Sheet1!B1+Tax!B1#", "B1": "4"},
                       {"n": "tAx!A1+1"}, ("Tax", "Last"))
        self.stays(book, Unknown, {"name": "tex"}, book.drop_sheet, "tex")
        book.drop_sheet("tax")
        self.assertEqual(book.sheets(), ("Sheet1", "Last"))
        self.texts(book, {"A1": "=#REF+#REF+B1", "B1": "4", "Last!A1": "=Sheet1!B1+#REF"})
        self.assertEqual(book.names(), {"n": "#REF+1"})
        self.worked(book, "A1 Last!A1")
        book.drop_sheet(name="SHEET1")
        self.texts(book, {"A1": "=#REF+#REF"})
        self.assertEqual(book.holding(), ("Last!A1",))
        self.stays(book, TooMany, {"most": 1}, book.drop_sheet, "last")
        self.stays(book, Unknown, {"name": "Sheet1"}, book.drop_sheet, "Sheet1")
        for value in NO_STRINGS:
            self.stays_bad(book, value, book.drop_sheet, value)
        # Without a sheet a place is on the first one.
        book.put("B1", "9")
        self.assertEqual(book.text_of("last!B1"), "9")


class Names(BookCase):
    def test_defined(self):
        book = book_of({"A1": "3", "A2": "=rate*2", "Tax!A1": "5", "Tax!A2": "=rate"}, sheets=("Tax",))
        self.values(book, {"A2": "#NAME"})
        book.define("Rate", "A1+tax!a1")
        self.assertEqual(book.names(), {"rate": "Sheet1!$A$1+tax!$A$1"})
        self.values(book, {"A2": 16, "tax!A2": 8})
        book.define(name="b.x", text="SUM(A:$B,2:3,t!C4#,B$2:A1)&rate&\"A1\"")
        self.assertEqual(book.names(), {"b.x": "SUM(Sheet1!$A:$B,Sheet1!$2:$3,t!$C$4#,Sheet1!$A$1:$B$2)&rate&\"A1\"",
                                        "rate": "Sheet1!$A$1+tax!$A$1"})
        self.assertEqual(list(book.names()), ["b.x", "rate"])
        book.define("rate", "7")
        self.values(book, {"A2": 14})
        self.worked(book, "A2 Tax!A2")
        book.define("rate", " 7 ")
        self.worked(book, "")
        book.undefine("raTE")
        self.worked(book, "A2 Tax!A2")
        self.values(book, {"A2": "#NAME"})
        book.names()["x"] = 1
        self.assertEqual(list(book.names()), ["b.x"])
        # The first sheet is that of the moment.
        book.drop_sheet("Sheet1")
        book.define("first", "A1")
        self.assertEqual(book.names()["first"], "Tax!$A$1")

    def test_errors(self):
        book = book_of({"A1": "=x"}, {"x": "1"})
        for name in ("", "a1", "R1C1", "rc", "true", "FALSE", "1a", "a b", "a!", "\u00e4", "A0", "c"):
            self.stays(book, NotAName, {"name": name}, book.define, name, "((" + "(" * 61)
        self.stays(book, TooMany, {"most": 60}, book.define, "y", "(" * 61)
        for text, at in (("", 0), ("1+", 2), ("A0", 2), ("=1", 0), (" ", 1)):
            self.stays(book, NotAFormula, {"at": at}, book.define, "x", text)
        for value in NO_STRINGS:
            self.stays_bad(book, value, book.define, value, 1)
            self.stays_bad(book, value, book.define, "??", value)
            self.stays_bad(book, value, book.undefine, value)
        text = "1" * 2000
        self.stays_bad(book, text, book.define, "??", text)
        book.define("y", "1" * 1999)
        for name in ("z", "", "a1"):
            self.stays(book, Unknown, {"name": name}, book.undefine, name)

    def test_what_names_tell(self):
        book = book_of({"A1": "1", "A2": "2", "B1": "=SUM(all)", "B2": "=me+1", "B3": "=one", "B4": "=gone", "B5": "=ROW()",
                        "B6": "=where", "C1": "=IF(TRUE,5,me)", "C2": "=one&two", "C3": "=all", "C6": "=-one", "C7": "=none"},
                       {"all": "A1:A2", "me": "you+1", "you": "me", "one": "A2", "where": "ROW()&\":\"&COLUMN()",
                        "two": "one*one", "none": "missing"})
        self.values(book, {"B1": 3, "B2": "#RING", "B3": 2, "B4": "#NAME", "B5": 5, "B6": "6:2", "C1": 5, "C2": "24", "C3": 1,
                           "C4": 2, "C6": -2, "C7": "#NAME"})
        book.define("you", "3")
        self.values(book, {"B2": 5})
        self.worked(book, "C1 B2")

    def test_many_names_of_great_height(self):
        book = Book()
        book.define("n0.x", "1")
        for number in range(1, 40):
            book.define(f"n{number}.x", "-" * 56 + f"n{number - 1}.x")
        book.put("A1", "=n39.x")
        self.values(book, {"A1": 1})
