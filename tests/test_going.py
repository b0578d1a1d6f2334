"""[45], [46], [64], [66], [67], [128]: rings that are gone round."""

from allinputs.errors import NotAName, NotTold, TooHigh, Unknown
from allinputs.going import Going
from allinputs.ratios import Ratio
from allinputs.rests import rests
from allinputs.values import Fault, same
from allinputs.webs import rings
from tests.books import BookCase, as_told, book_of
from tests.calls import thing
from tests.helper import NO_INTEGERS


def told_values(values):
    return [as_told(value) for value in values]


class Rounds(BookCase):
    def now(self, going, **told):
        for place, value in told.items():
            found = going.now_at(place)
            self.assertTrue(same(found, thing(value)), f"{place}: {as_told(found)}, not {value}")

    def test_by_rows_and_columns(self):
        # Each cell sees what the cells ahead hold behind this round already.
        going = Going(book_of({"A1": "=C1+1", "B1": "=A1+1", "C1": "=B1*2", "A2": "=A1+A2"}), {"C1": 10, "A2": 3})
        self.now(going, A1=0, B1=0, C1=10, A2=3)
        going.go(1)
        self.now(going, A1=11, B1=12, C1=24, A2=14)
        going.go(1)
        self.now(going, A1=25, B1=26, C1=52, A2=39)

    def test_by_sheets(self):
        book = book_of({"B1": "=Tax!A1+1", "Tax!A1": "=Sheet1!B1*2", "A2": "=Tax!A1+A2"}, sheets=("Tax",))
        going = Going(book, {"tax!a1": 5})
        going.go(1)
        self.now(going, B1=6, A2=5, **{"Tax!A1": 12})
        going.go(2)
        self.now(going, B1=27, A2=43, **{"Tax!A1": 54})

    def test_cells_outside_of_rings(self):
        book = book_of({"A1": "=A2+1", "A2": "=B1", "B1": "=A1*10", "C1": "=A2+A1", "D1": "7", "E9": "=D1"})
        self.assertEqual(rings(book), (("Sheet1!A1", "Sheet1!B1", "Sheet1!A2"),))
        going = Going(book, {"A2": 4})
        self.now(going, A1=0, B1=0, A2=4, C1=4, D1=7, E9=7)
        going.go(1)
        self.now(going, A1=5, B1=50, A2=50, C1=55, D1=7, E9=7)

    def test_formulas_between_rings(self):
        book = book_of({"A1": "=A1+1", "B1": "=A1*10", "C1": "=C1+B1", "D1": "=SUM(A1:C1)"})
        going = Going(book, {"A1": 2, "C1": 100})
        self.now(going, B1=20, D1=122)
        going.go(1)
        self.now(going, A1=3, B1=30, C1=130, D1=163)
        going.go(3)
        self.now(going, A1=6, B1=60, C1=280, D1=346)

    def test_blanks_become_nought(self):
        going = Going(book_of({"A1": "=IF(A1=5,B1,A1)"}), {"A1": 5})
        going.go(1)
        self.now(going, A1=0)
        self.assertFalse(going.is_still())
        going.go(1)
        self.assertTrue(going.is_still())

    def test_texts_truths_and_faults(self):
        going = Going(book_of({"A1": "=IF(A1=0,\"x\",A1&\"x\")", "B1": "=ISTEXT(A1)=B1", "C1": "=1/(C1-1)", "D1": "=A1"}), {"C1": 2})
        going.go(1)
        self.now(going, A1="x", B1=False, C1=1, D1="x")
        going.go(1)
        self.now(going, A1="xx", B1=False, C1="#DIV", D1="xx")
        going.go(1)
        self.now(going, C1="#DIV", A1="xxx")

    def test_spills_that_see_rings(self):
        book = book_of({"A1": "=A1+1", "B1": "=SEQUENCE(A1)", "C1": "=COUNT(B:B)", "D1": "=D1+B2", "B4": "stop"})
        going = Going(book, {"A1": 1})
        self.now(going, B1=1, B2=None, C1=1, D1=0)
        going.go(1)
        self.now(going, A1=2, B1=1, B2=2, B3=None, C1=2, D1=2)
        going.go(1)
        self.now(going, A1=3, B3=3, C1=3, D1=4)
        going.go(1)
        self.now(going, A1=4, B1="#SPILL", B2=None, B3=None, C1=0, D1=4)

    def test_spills_into_cells_that_others_spill_into(self):
        book = book_of({"A1": "=1-A1", "B1": "=SEQUENCE(1+A1*2)", "B3": "=C9", "A3": "=SEQUENCE(1,2)"})
        book.put("B3", "")
        going = Going(book, {})
        self.now(going, B1=1, A3=1, B3=2)
        going.go(1)
        self.now(going, B1=1, B2=2, B3=3, A3="#SPILL")
        going.go(1)
        self.now(going, B1=1, B2=None, B3=2, A3=1)

    def test_whole_columns(self):
        going = Going(book_of({"A1": "=SUM(B:B)", "B2": "=A1+1", "B5": "=ROWS(B:B)"}), {})
        going.go(2)
        self.now(going, A1=6, B2=7, B5=5)

    def test_is_still(self):
        going = Going(book_of({"A1": "=MIN(A1+1,2)"}), {})
        self.assertIs(going.is_still(), False)
        going.go(0)
        self.assertEqual((going.is_still(), going.rounds()), (False, 0))
        for _ in range(2):
            going.go(1)
            self.assertIs(going.is_still(), False)
        going.go(1)
        self.assertEqual((going.is_still(), going.rounds()), (True, 3))
        going.go(0)
        self.assertIs(going.is_still(), True)
        going.go(1000)
        self.assertEqual((going.is_still(), going.rounds(), str(going.now_at("A1"))), (True, 1003, "2"))
        self.assertFalse(Going(book_of({"A1": "=A1"}), {}).is_still())
        calm = Going(book_of({"A1": "1"}), {})
        calm.go(1)
        self.assertTrue(calm.is_still())

    def test_facts_of_rests(self):
        book = book_of({"A1": "=B1/2+3", "B1": "=A1"})
        for rest in rests(book, "A1"):
            going = Going(book, {"A1": rest, "B1": rest})
            going.go(1)
            self.assertTrue(going.is_still())
        going = Going(book_of({"A1": "=IF(A1<8,A1+1,A1)"}), {"A1": 3})
        going.go(9)
        self.assertTrue(going.is_still())
        self.assertEqual(str(going.now_at("A1")), "8")

    def test_the_book_goes_its_own_way(self):
        book = book_of({"A1": "=A1+1"})
        begin = {"A1": 1}
        going = Going(book, begin)
        book.put("A1", "=A1+2")
        begin["A1"] = 50
        going.go(1)
        self.now(going, A1=2)
        self.values(book, {"A1": "#RING"})

    def test_begins(self):
        book = book_of({"A1": "=A1", "B1": "=1", "C1": "=Tax!A1", "Tax!A1": "=Sheet1!C1"}, sheets=("Tax",))
        going = Going(begin={"$a$1": Ratio(1, 3), "tax!A1": -2}, book=book)
        self.now(going, A1=Ratio(1, 3), C1=0, **{"Tax!A1": -2})
        for begin in ({"B1": 1}, {"Z1": 1}, {"A1": 1, "a1": 1}, {"A1": 1, "Sheet1!A1": 1}, {"?": 1}, {"No!A1": 1}, {"A1": "1"},
                      {"A1": True}, {"A1": None}, {1: 1}, [("A1", 1)], None, "A1", {"A1": 1.5}, {"A1:A2": 1}):
            self.bad(begin, Going, book, begin)

    def test_books_that_are_not_gone_round(self):
        for cells in ({"A1": "=A1*{1,2}"}, {"A1": "=B1", "B1": "=A1:A2"}, {"A1": "=A1", "C1": "=C1:D1"},
                      {"A1": "=SORT(A1:A2)"}):
            self.fails(NotTold, {}, Going, book_of(cells), {})
        begin = {"Z1": 1}
        self.bad(begin, Going, book_of({"A1": "=A1*{1,2}"}), begin)
        Going(book_of({"A1": "=SUM(A1:A2)", "B1": "=SEQUENCE(5)"}), {})

    def test_wrong_arguments(self):
        for value in (None, 1, "A1"):
            self.bad(value, Going, value, {})
        going = Going(book_of({"A1": "=A1+1"}), {})
        for value in NO_INTEGERS + (-1, 1001):
            self.bad(value, going.go, value)
            self.bad(value, going.course, "?", value)
            self.bad(value, going.returns, value)
        for value in (None, 1, True):
            self.bad(value, going.now_at, value)
            self.bad(value, going.course, value, None)
        for call in (going.now_at, lambda place: going.course(place, 1)):
            self.fails(NotAName, {"name": "?"}, call, "?")
            self.fails(Unknown, {"name": "Tax"}, call, "Tax!A1")
        self.assertEqual(going.rounds(), 0)


class Digits(BookCase):
    def test_too_many_digits(self):
        going = Going(book_of({"A1": "=A1*B1", "B1": "=B1+0", "C1": "=A1*10", "D1": "=D1+1"}), {"A1": 1, "B1": 10 ** 299})
        going.go(10)
        self.fails(TooHigh, {"most": 3000}, going.go, 5)
        self.assertEqual((going.rounds(), going.is_still()), (10, False))
        self.assertEqual(going.now_at("A1"), Ratio(10 ** 2990))
        self.assertEqual(going.now_at("D1"), Ratio(10))
        self.assertEqual(going.now_at("C1"), Ratio(10 ** 2991))
        self.fails(TooHigh, {"most": 3000}, going.go, 1)
        self.assertEqual(going.now_at("D1"), Ratio(10))
        self.fails(TooHigh, {"most": 3000}, going.course, "A1", 11)
        self.fails(TooHigh, {"most": 3000}, going.returns, 11)
        self.assertEqual(len(going.course("A1", 10)), 11)
        self.assertIsNone(going.returns(10))

    def test_in_what_hangs_on_rings(self):
        going = Going(book_of({"A1": "=A1*10^64", "B1": "=A1^9", "C1": "=A1"}), {"A1": 1})
        going.go(5)
        self.assertEqual(going.now_at("B1"), Ratio(10 ** 2880))
        going.go(1)
        self.fails(TooHigh, {"most": 3000}, going.now_at, "B1")
        self.assertEqual(going.now_at("C1"), Ratio(10 ** 384))
        # What a formula in a ring hangs on is worked for it, needed or not; what nobody asks for is not.
        going = Going(book_of({"A1": "=IF(TRUE,A1+1,B1)", "B1": "=C1+1", "C1": "=(9^64)^60"}), {})
        self.fails(TooHigh, {"most": 3000}, going.go, 1)
        going = Going(book_of({"A1": "=A1+1", "B1": "=C1+1", "C1": "=(9^64)^60"}), {})
        going.go(3)
        self.assertEqual(str(going.now_at("A1")), "3")
        self.fails(TooHigh, {"most": 3000}, going.now_at, "B1")
        self.fails(TooHigh, {"most": 3000}, going.course, "B1", 0)


class Courses(BookCase):
    def test_courses(self):
        going = Going(book_of({"A1": "=A1/2+3", "B1": "=A1*2", "C1": "7"}), {"A1": 4})
        self.assertEqual(told_values(going.course("A1", 3)), [4, 5, Ratio(11, 2), Ratio(23, 4)])
        self.assertEqual(told_values(going.course("B1", 2)), [8, 10, 11])
        self.assertEqual(told_values(going.course("C1", 1)), [7, 7])
        self.assertEqual(told_values(going.course(many=0, place="Z9")), [None])
        self.assertEqual((going.rounds(), str(going.now_at("A1"))), (0, "4"))
        going.go(2)
        self.assertEqual(told_values(going.course("A1", 1)), [4, 5])
        self.assertEqual((going.rounds(), going.now_at("A1")), (2, Ratio(11, 2)))

    def test_returns(self):
        def first(formula, number, many):
            return Going(book_of({"A1": formula}), {"A1": number}).returns(many)

        self.assertEqual(first("=1-A1", 0, 100), (0, 2))
        self.assertEqual(first("=1-A1", 0, 2), (0, 2))
        self.assertIsNone(first("=1-A1", 0, 1))
        self.assertEqual(first("=A1", 0, 1), (0, 1))
        self.assertIsNone(first("=A1", 0, 0))
        self.assertEqual(first("=IF(A1<3,A1+1,IF(A1=5,3,A1+1))", 0, 100), (3, 3))
        self.assertEqual(first("=IF(A1<3,A1+1,IF(A1=5,3,A1+1))", 0, 6), (3, 3))
        self.assertIsNone(first("=IF(A1<3,A1+1,IF(A1=5,3,A1+1))", 0, 5))
        self.assertEqual(first("=MIN(A1+1,4)", 1, 1000), (3, 1))
        self.assertIsNone(first("=A1+1", 0, 1000))

    def test_returns_looks_at_all_cells_in_rings(self):
        going = Going(book_of({"A1": "=1-A1", "B1": "=MOD(B1+1,3)", "C1": "=C1+0", "D1": "=A1+B1"}), {})
        self.assertEqual(going.returns(100), (0, 6))
        # Capitals count, and a truth is no number.
        going = Going(book_of({"A1": "=IF(A1=0,\"a\",IF(EXACT(A1,\"a\"),\"A\",\"a\"))"}), {})
        self.assertEqual(going.returns(100), (1, 2))
        going = Going(book_of({"A1": "=IF(ISLOGICAL(A1),1,TRUE)"}), {"A1": 1})
        self.assertEqual(going.returns(100), (0, 2))
        going = Going(book_of({"A1": "=IF(ISNA(A1),1/0,NA())"}), {})
        self.assertEqual(going.returns(100), (1, 2))
        going.go(5)
        self.assertEqual((going.returns(many=100), going.rounds()), ((1, 2), 5))
        self.assertEqual(going.now_at("A1"), Fault("NA"))
