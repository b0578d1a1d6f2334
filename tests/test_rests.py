"""[41], [45] to [47], [64], [65], [127]: single cells of rings, and the numbers at which they are at rest."""

from allinputs.book import Book
from allinputs.curves import Curve
from allinputs.errors import NotAName, NotTold, TooHigh, Unknown
from allinputs.members import member
from allinputs.points import Point, isolate
from allinputs.ratios import Ratio
from allinputs.rests import is_single, rests, values_at_rest
from allinputs.spans import Span
from allinputs.splits import told_row
from tests.books import book_of
from tests.helper import NO_RATIOS, ROOT, X
from tests.rows import RowCase, places_text


class Single(RowCase):
    def single(self, cells, **told):
        book = book_of(cells, sheets=("Tax",))
        for place, expected in told.items():
            self.assertIs(is_single(book, place), expected, place)

    def test_cells_of_rings(self):
        self.single({"A1": "=B1+1", "B1": "=A1/2", "C1": "=A1", "D1": "=D1", "E1": "5"},
                    A1=True, B1=True, C1=False, D1=True, E1=False, F1=False)

    def test_reaches_of_more_than_one(self):
        self.single({"A1": "=B1+1", "B1": "=A1*{1,2}", "C1": "=SUM(A1,B1:B1)"}, A1=True, B1=False, C1=False)
        self.single({"A1": "=SORT(A1)", "A2": "=A2:A3", "B1": "=SUM(B1:B5)", "B9": "=INDEX(B9,1)"},
                    A1=True, A2=False, B1=True, B9=True)
        # The edge of the sheet cuts no height and width here.
        self.single({"A1000000": "=A1000000*{1;2}", "B1000000": "=B1000000"}, A1000000=False, B1000000=True)

    def test_a_second_ring_through_it(self):
        # What A1 hangs on goes on in a ring of its own when A1 is cut.
        self.single({"A1": "=B1", "B1": "=A1+C1", "C1": "=B1"}, A1=False, B1=True, C1=False)
        self.single({"A1": "=B1+C1", "B1": "=A1", "C1": "=D1", "D1": "=C1"}, A1=False, B1=False, C1=True, D1=True)
        self.single({"A1": "=B1+A1", "B1": "=A1"}, A1=True, B1=False)

    def test_rings_over_sheets_names_and_spills(self):
        book = book_of({"A1": "=rate", "Tax!A1": "=Sheet1!A1"}, names={"rate": "Tax!A1+1"}, sheets=("Tax",))
        self.assertTrue(is_single(book, "A1") and is_single(book, "tax!$A$1"))
        book = book_of({"B1": "=SEQUENCE(2,1,C1)", "C1": "=B2"})
        self.assertFalse(is_single(book, "B1"))
        self.assertTrue(is_single(book, "C1"))

    def test_wrong_arguments(self):
        book = book_of({"A1": "=A1"})
        for value in (None, 1, "A1"):
            self.bad(value, is_single, value, "A1")
        for value in (None, 1, True):
            self.bad(value, is_single, book, value)
        self.fails(NotAName, {"name": "?"}, is_single, book, "?")
        self.fails(Unknown, {"name": "Tax"}, is_single, book, "Tax!A1")
        self.assertTrue(is_single(place="a1", book=book))


class Rests(RowCase):
    def at_rest(self, formula, text, low=None, high=None):
        """The rests of a cell that sees itself, as texts; each is checked by the words of the document."""
        book = book_of({"A1": formula})
        found = rests(book, "A1", low, high)
        self.assertEqual(places_text(found), text, formula)
        for place in found:
            if isinstance(place, Ratio):
                self.assertEqual(values_at_rest(book, "A1", place), {"Sheet1!A1": place})

    def test_points(self):
        self.at_rest("=A1/2+1", "2")
        self.at_rest("=A1/2+1/A1", "~-1.414 ~1.414")
        self.at_rest("=A1*A1", "0 1")
        self.at_rest("=A1+1", "")
        self.at_rest("=1/A1", "-1 1")
        self.at_rest("=A1*A1*A1-6", "2")
        self.assertEqual(rests(book_of({"A1": "=2/A1"}), "A1"), (Point(X * X - 2, -2, 0), ROOT))

    def test_all_over_a_span(self):
        self.at_rest("=A1", "(,)")
        self.at_rest("=ABS(A1)", "0 (0,)")
        self.at_rest("=IF(A1<8,A1/2+3,A1)", "6 8 (8,)")
        self.at_rest("=MAX(A1,2)", "2 (2,)")
        self.at_rest("=IF(A1=3,4,A1)", "(,3) (3,)")
        self.at_rest("=IF(A1*A1=2,0,A1)", "(,~-1.414) (~-1.414,~1.414) (~1.414,)")
        self.at_rest("=IF(A1*A1<2,A1,0)", "(~-1.414,~1.414)")
        self.at_rest("=IF(A1*A1<=2,A1,0)", "~-1.414 (~-1.414,~1.414) ~1.414")

    def test_ratios_told_all_over_a_span(self):
        self.at_rest("=5+0*A1", "5")
        self.at_rest("=IF(A1>0,5,-3)", "-3 5")
        self.at_rest("=IF(A1>0,-3,5)", "")
        self.at_rest("=IF(A1>5,5,7)", "")
        self.at_rest("=IF(A1>=5,5,7)", "5")

    def test_blanks_truths_texts_and_faults(self):
        self.at_rest("=IF(A1=0,B1,1+A1)", "0")
        self.at_rest("=IF(A1>-1,B1,5)", "0")
        self.at_rest("=IF(A1=1,TRUE,A1+1)", "")
        self.at_rest("=IF(A1=1,\"1\",A1+1)", "")
        self.at_rest("=A1=0", "")
        self.at_rest("=A1/0", "")

    def test_ranges(self):
        self.at_rest("=A1*A1", "1", low=Ratio(1, 2))
        self.at_rest("=A1*A1", "0 1", low=0, high=1)
        self.at_rest("=A1", "0 (0,1) 1", low=0, high=1)
        self.at_rest("=IF(A1<8,A1/2+3,A1)", "6 8", low=0, high=8)
        self.at_rest("=2/A1", "~1.414", low=0)

    def test_where_single_ratios_give_no_value(self):
        book = book_of({"A1": "=IF(A1>1,(9^64)^(64*0+60)*0+A1,A1/2)"})
        self.fails(TooHigh, {"most": 3000}, rests, book, "A1")
        # At 10 to the power 299 and near it the book has no value, and all rests are told all the same.
        book = book_of({"A1": "=IF(A1^20>0,A1,0)"})
        self.assertEqual(rests(book, "A1"), (Span(None, None),))
        self.fails(TooHigh, {"most": 3000}, values_at_rest, book, "A1", 10 ** 299)
        self.assertEqual(values_at_rest(book, "A1", 7), {"Sheet1!A1": Ratio(7)})

    def test_with_other_cells(self):
        book = book_of({"A1": "=B1/2+1/B1", "B1": "=A1+C1", "C1": "0", "D1": "=A1"})
        self.assertEqual(rests(book, "A1"), isolate(X * X - 2, None, None))
        self.assertEqual(rests(book, "B1"), isolate(X * X - 2, None, None))
        book.put("C1", 1)
        self.assertEqual(places_text(rests(book, "A1")), "~-1.732 ~1.732")
        for root in rests(book, "A1"):
            x = member(root, Curve(X)) if isinstance(root, Point) else root
            y = x + 1
            self.assertEqual(y * Ratio(1, 2) + y.inverse(), x)

    def test_as_told_rows(self):
        self.fails(NotTold, {}, rests, book_of({"A1": "=A1&\"\""}), "A1")
        self.fails(NotTold, {}, rests, book_of({"A1": "=B1", "B1": "=IF(FALSE,C1,A1)", "C1": "=A1&1"}), "A1")
        self.fails(NotTold, {}, rests, book_of({"A1": "=INT(A1)"}), "A1")
        self.fails(TooHigh, {"most": 60}, rests, book_of({"A1": "=A1^61"}), "A1")
        self.assertEqual(places_text(rests(book_of({"A1": "=INT(A1)"}), "A1", 0, 3)), "0 1 2 3")
        row = told_row(lambda x: x * x * x - x * 3, -3, 3)
        self.assertEqual(places_text(rests(book_of({"A1": "=A1^3-3*A1"}), "A1", -3, 3)), "-2 0 2")
        self.assertEqual(len(row), 3)

    def test_errors_and_wrong_arguments(self):
        book = book_of({"A1": "=A1/2+3", "B1": "5", "C1": "=C1*{1,2}"})
        for value in (None, 1, "A1"):
            self.bad(value, rests, value, "A1")
            self.bad(value, values_at_rest, value, "A1", 6)
        for value in (None, 1, True):
            self.bad(value, rests, book, value, 5, 1)
            self.bad(value, values_at_rest, book, value, None)
        for value in NO_RATIOS + (ROOT,):
            self.bad(value, rests, book, "?", value, 0)
            self.bad(value, rests, book, "?", 0, value)
            self.bad(value, values_at_rest, book, "?", value)
        self.bad(1, rests, book, "?", 1, 1)
        self.bad(None, values_at_rest, book, "?", None)
        for call in (rests, lambda one, place: values_at_rest(one, place, 6)):
            self.fails(NotAName, {"name": "?"}, call, book, "?")
            self.fails(Unknown, {"name": "Tax"}, call, book, "Tax!A1")
            self.fails(NotTold, {}, call, book, "B1")
            self.fails(NotTold, {}, call, book, "C1")
            self.fails(NotTold, {}, call, Book(), "A1")
        self.assertEqual(rests(high=6, low=Ratio(6) - 1, place="A1", book=book), (Ratio(6),))


class ValuesAtRest(RowCase):
    def test_values_of_the_ring(self):
        book = book_of({"C1": "=B1+1", "A1": "=IF(C1<10,C1,10)", "B1": "=A1*2-D1", "D1": "3", "E1": "=A1"})
        told = values_at_rest(book, "a1", 2)
        self.assertEqual(list(told), ["Sheet1!A1", "Sheet1!B1", "Sheet1!C1"])
        self.assertEqual([str(value) for value in told.values()], ["2", "1", "2"])
        told = values_at_rest(ratio=10, place="$A$1", book=book)
        self.assertEqual([str(value) for value in told.values()], ["10", "17", "18"])
        self.assertEqual([str(value) for value in values_at_rest(book, "B1", Ratio(1)).values()], ["2", "1", "2"])
        self.assertEqual(book.text_of("A1"), "=IF(C1<10,C1,10)")

    def test_mates_that_are_no_numbers(self):
        book = book_of({"A1": "=IF(B1,1,1)", "B1": "=A1>0", "C1": "=C2", "C2": "=IFERROR(C3,4)", "C3": "=1/(C1-4)"})
        self.assertEqual(values_at_rest(book, "A1", 1)["Sheet1!B1"], True)
        self.assertEqual(str(values_at_rest(book, "C1", 4)["Sheet1!C3"]), "#DIV")

    def test_no_rests(self):
        book = book_of({"A1": "=A1/2+3", "B1": "=B1=0", "C1": "=C1*C1-2", "D1": "=E1", "F1": "=IF(F1=0,G1,1)"})
        for place, ratio in (("A1", 5), ("A1", Ratio(13, 2)), ("B1", 0), ("B1", 1), ("C1", Ratio(3, 2)), ("F1", 2)):
            self.bad(ratio, values_at_rest, book, place, ratio)
        self.assertEqual(values_at_rest(book, "F1", 0), {"Sheet1!F1": Ratio(0)})

    def test_no_value(self):
        book = book_of({"A1": "=IF(A1=B1,A1,A1)", "B1": "=C1+1", "C1": "=(9^64)^60"})
        self.fails(TooHigh, {"most": 3000}, values_at_rest, book, "A1", 1)
        book = book_of({"A1": "=A1*B1", "B1": "=9^64^2*0+1"})
        self.assertEqual(values_at_rest(book, "A1", 3), {"Sheet1!A1": Ratio(3)})
        self.fails(TooHigh, {"most": 3000}, values_at_rest, book_of({"A1": "=A1^64^9"}), "A1", 10 ** 299)
