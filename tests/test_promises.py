"""[12], [58], [60], [61], [80], [135]: promises."""

from allinputs.book import Book
from allinputs.errors import BadPromise, NotTold, TooHigh
from allinputs.points import Point
from allinputs.promises import broken_at, holds, promise_text
from allinputs.ratios import Ratio
from tests.books import BookCase, book_of
from tests.helper import ROOT, X

CELLS = {
    "A2": "=1/(A1*A1+1)", "A3": "=A1*A1-2", "A4": "=IF(A1>5,NA(),A1)", "A5": "=IF(A1*A1=2,NA(),7)", "A6": "=IF(A1*A1=2,1/0,A1)",
    "A7": "text", "A8": "=A1>0", "A9": "=A1&1", "B1": "=(A1-1)*(A1+1)-1", "B2": "=IF(A1*A1=3,5,A3)", "B3": "=A1^61", "B4": "=3",
    "B5": "=ABS(A1)", "B6": "=IF(A1=2,9,IF(A1*A1=2,9,0))", "Tax!A1": "=Sheet1!A1",
}


class Promises(BookCase):
    def setUp(self):
        self.book = book_of(CELLS, sheets=("Tax",))

    def kept(self, *promises):
        for promise in promises:
            self.assertIs(holds(self.book, promise), True, promise)
            self.assertIsNone(broken_at(self.book, promise), promise)

    def broken(self, promise, *tries):
        """A promise is broken at a Ratio, which the book confirms; or at a told place."""
        self.assertIs(holds(self.book, promise), False, promise)
        where = broken_at(self.book, promise)
        if tries:
            self.assertIn(where, tries)
            self.assertEqual(type(where), type(tries[0]))
        return where

    def test_never_fails(self):
        self.kept("A2 never fails for A1", "A7 never fails for A1", "C9 never fails for A1",
                  "A4 never fails for A1 from 0 to 5", "A5 never fails for A1 from 2 to 9")
        self.assertGreater(self.broken("A4 never fails for A1").compare(5), 0)
        self.broken("A5 never fails for A1", Point(X * X - 2, -2, -1))
        self.broken("A5 never fails for A1 from 0 to 2", ROOT)

    def test_from_to(self):
        self.kept("A2 from 0 to 1 for A1", "A1 from 0 to 5 for A1 from 0 to 5", "B4 from 3 to 3 for A1",
                  "A3 from -2 to 2 for A1 from -2 to 2", "A1 from -1 to 9 for A1 from 0 to 5")
        where = self.broken("A3 from -2 to 2 for A1")
        self.assertGreater((where * where).compare(4), 0)
        where = self.broken("A3 from 0 to 2 for A1 from -2 to 2")
        self.assertLess((where * where).compare(2), 0)
        self.broken("A1 from 0 to 5 for A1 from 0 to 5.5")
        # Never, if the second number is less.
        self.broken("A1 from 5 to 0 for A1 from 0 to 5")
        self.broken("B4 from 3 to 2 for A1")
        self.broken("A7 from 0 to 9 for A1")
        self.broken("C9 from 0 to 9 for A1")
        self.broken("A8 from 0 to 9 for A1")
        self.broken("A6 from 0 to 2 for A1 from 0 to 2", ROOT)

    def test_at_least_and_at_most(self):
        self.kept("A3 at least -2 for A1", "A2 at most 1 for A1", "A1 at least 3 for A1 from 3 to 4", "A1 at most 4 for A1 from 3 to 4",
                  "B5 at least 0 for A1", "A2 at least 0 for A1")
        where = self.broken("A3 at least -1.9 for A1")
        self.assertLess((where * where - 2).compare(Ratio(-19, 10)), 0)
        self.assertGreater(self.broken("A1 at most 3.9 for A1 from 3 to 4").compare(Ratio(39, 10)), 0)
        self.broken("A7 at least 0 for A1")
        self.broken("A7 at most 0 for A1")
        self.broken("A4 at most 9 for A1")

    def test_broken_at_one_number_alone(self):
        self.broken("B6 at most 5 for A1", Ratio(2))
        self.broken("B6 at most 5 for A1 from 0 to 1.9", ROOT)
        self.broken("B6 at most 5 for A1 from 2 to 3", Ratio(2))
        self.broken("A1 at least 2.0001 for A1 from 2 to 2.0001")
        self.broken("B5 at most 1 for A1 from -1 to 1.5")
        self.kept("B5 at most 1 for A1 from -1 to 1")

    def test_reaches(self):
        self.kept("A3 reaches 2 for A1", "A3 reaches 0 for A1", "A3 reaches -2 for A1", "A5 reaches 7 for A1", "A1 reaches 5 for A1 from 0 to 5",
                  "A1 reaches 0 for A1 from 0 to 5", "B6 reaches 9 for A1 from 0 to 1.5", "A2 reaches 1 for A1")
        for promise in ("A3 reaches -3 for A1", "A3 reaches 2 for A1 from 3 to 4", "A2 reaches 0 for A1", "A7 reaches 0 for A1",
                        "A8 reaches 1 for A1", "C9 reaches 0 for A1", "A1 reaches 5.1 for A1 from 0 to 5", "B6 reaches 9 for A1 from 0 to 1"):
            self.assertIs(holds(self.book, promise), False, promise)
            self.assertIsNone(broken_at(self.book, promise), promise)

    def test_same_as(self):
        self.kept("A3 same as B1 for A1", "A7 same as A7 for A1", "Tax!A1 same as A1 for A1", "C9 same as D9 for A1",
                  "B5 same as A1 for A1 from 0 to 1", "A9 same as A9 for B1")
        where = self.broken("A3 same as A1 for A1")
        self.assertNotEqual(where * where - 2, where)
        self.assertLess(self.broken("B5 same as A1 for A1").compare(0), 0)
        self.broken("B2 same as A3 for A1", Point(X * X - 3, -2, -1))
        self.broken("B2 same as A3 for A1 from 0 to 9", Point(X * X - 3, 0, 2))
        self.broken("A7 same as A8 for A1")

    def test_where_the_free_cell_held_something(self):
        book = book_of({"A1": "5", "A2": "=A1", "A3": "=A2*2"})
        self.assertTrue(holds(book, "A3 at most 4 for A2 from 0 to 2"))
        self.assertTrue(holds(book, "A3 from 10 to 10 for Z1"))
        self.assertFalse(holds(book, "A3 from 10 to 10 for A1"))

    def test_plain_texts(self):
        for promise, text in (
            ("$a$2 from 0 to 1.50 for A1", "Sheet1!A2 from 0 to 1.5 for Sheet1!A1"),
            ("tax!A$1 never fails for sheet1!$A1", "Tax!A1 never fails for Sheet1!A1"),
            ("A2 same as TAX!a1 for A1 from 1e2 to 0700/3",
             "Sheet1!A2 same as Tax!A1 for Sheet1!A1 from 100 to 700/3"),
            ("A2 reaches +.5 for A1 from -1e-2 to 0", "Sheet1!A2 reaches 0.5 for Sheet1!A1 from -0.01 to 0"),
            ("A2 at least -7/14 for A1", "Sheet1!A2 at least -0.5 for Sheet1!A1"),
            ("A2 at most 3. for A1", "Sheet1!A2 at most 3 for Sheet1!A1"),
            ("A2 from 5 to 1 for A1", "Sheet1!A2 from 5 to 1 for Sheet1!A1"),
        ):
            self.assertEqual(promise_text(self.book, promise), text)
            self.assertEqual(promise_text(self.book, text), text)
        self.assertEqual(promise_text(promise="A1 reaches 1 for A1", book=self.book), "Sheet1!A1 reaches 1 for Sheet1!A1")

    def test_what_is_no_promise(self):
        for promise in (
            "", " ", "A2", "A2 never fails", "A2 never fails for", "A2 never fails for A1 ", " A2 never fails for A1", "A2  never fails for A1",
            "A2 Never fails for A1", "A2 never fails For A1", "A2 never fails for A1:A2", "A2:A3 never fails for A1", "A0 never fails for A1",
            "no!A2 never fails for A1", "A2 never fails for no!A1", "A2 same as no!A1 for A1", "A2 same as for A1", "A2 same A3 for A1",
            "A2 from 1 for A1", "A2 from 1 to for A1", "A2 from 1 to x for A1", "A2 from 1 to 2 to 3 for A1", "A2 at 5 for A1",
            "A2 at least for A1", "A2 at least 1/0 for A1", "A2 at least 1e for A1", "A2 at best 5 for A1", "A2 reaches TRUE for A1",
            "A2 never fails for A1 from 1", "A2 never fails for A1 from 1 to", "A2 never fails for A1 from 1 to 1",
            "A2 never fails for A1 from 2 to 1", "A2 never fails for A1 from 1 to 2 x", "A2 never fails for A1 from x to 2",
            "A2 never fails for A1 to 2 from 1", "A2 never fails A1", "A2 fails for A1", "A2 never fails for A1\n", "A2\tnever fails for A1",
            "\u00e4 never fails for A1", "A2 reaches \u0661 for A1", "A2 reaches - 5 for A1", "A2 reaches 5 5 for A1", "A2 reaches  5 for A1",
        ):
            for call in (promise_text, holds, broken_at):
                self.fails(BadPromise, {"promise": promise}, call, self.book, promise)

    def test_long_promises(self):
        number = "9" * 330
        promise = f"A3 reaches {number} for A1 from -{'1' * 30} to 5"
        self.assertLessEqual(len(promise), 400)
        self.assertEqual(promise_text(self.book, promise), promise.replace("A3", "Sheet1!A3").replace("A1", "Sheet1!A1"))
        promise = "A2 reaches 0." + "0" * 300 + "1e-99 for A1"
        plain = promise_text(self.book, promise)
        self.assertGreater(len(plain), 400)
        self.assertEqual(promise_text(self.book, plain), plain)
        self.assertTrue(holds(self.book, plain))
        long = plain.replace("Sheet1!A2", "A2")
        self.assertGreater(len(long), 400)
        for call in (promise_text, holds, broken_at):
            self.fails(BadPromise, {"promise": long}, call, self.book, long)
        self.fails(BadPromise, {"promise": f"A2 reaches {'1' * 1001} for A1"}, holds, self.book, f"A2 reaches {'1' * 1001} for A1")
        exact = "A2 reaches " + "0" * (400 - len("A2 reaches 1 for A1")) + "1 for A1"
        self.assertEqual((len(exact), promise_text(self.book, exact)), (400, "Sheet1!A2 reaches 1 for Sheet1!A1"))
        self.fails(BadPromise, {"promise": exact.replace("01", "001")}, promise_text, self.book, exact.replace("01", "001"))

    def test_what_is_not_told(self):
        for call in (holds, broken_at):
            self.fails(NotTold, {}, call, self.book, "A9 never fails for A1")
            self.fails(NotTold, {}, call, self.book, "A2 same as A9 for A1")
            self.fails(TooHigh, {"most": 60}, call, self.book, "B3 at least 0 for A1")
        self.assertEqual(promise_text(self.book, "A9 never fails for A1"), "Sheet1!A9 never fails for Sheet1!A1")

    def test_nothing_is_changed(self):
        before = self.book.copied()
        holds(self.book, "A3 at least -2 for A1")
        self.assertTrue(self.book == before)

    def test_wrong_arguments(self):
        for call in (promise_text, holds, broken_at):
            for value in (None, 1, "A1"):
                self.bad(value, call, value, "x")
            for value in (None, 1, True, ["A1"]):
                self.bad(value, call, Book(), value)
