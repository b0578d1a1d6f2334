"""[59] to [61], [120]: told rows of functions of one number."""

from allinputs.curves import Curve
from allinputs.errors import NotTold, TooHigh, Turns
from allinputs.functions import call
from allinputs.members import Member
from allinputs.operators import operate
from allinputs.points import Point, isolate
from allinputs.ratios import Ratio
from allinputs.spans import Span, roots_in
from allinputs.splits import told_row
from allinputs.strands import Strand
from allinputs.told import Told
from allinputs.values import Fault
from tests.books import book_of
from tests.helper import NO_RATIOS, ROOT, X
from tests.rows import RowCase, row_text


def size(x):
    return x if x.sign() >= 0 else -x


def nothing(_):
    return None


class Splits(RowCase):
    def tells(self, work, text, low=None, high=None):
        parts = told_row(work, low, high)
        self.well_made(parts, low if low is None else Ratio(1) * low, high if high is None else Ratio(1) * high)
        self.assertEqual(row_text(parts), text)

    def test_curves_and_values(self):
        self.tells(lambda x: x, "(,): x")
        self.tells(size, "(,0): -x | 0: 0 | (0,): x")
        self.tells(lambda x: x * x - x * x + 2, "-1: 2 | (-1,): 2", low=-1)
        self.tells(nothing, "0: None | (0,1): None | 1: None", low=0, high=1)
        self.tells(lambda x: Fault("NA") if (x * x - 2).sign() < 0 else "out",
                   "(,~-1.414): 'out' | ~-1.414: 'out' | (~-1.414,~1.414): #NA | ~1.414: 'out' | (~1.414,): 'out'")
        self.tells(lambda x: x.floor() > 2, "0: False | (0,3): False | 3: True | (3,5): True | 5: True", low=0, high=5)

    def test_the_work_is_asked_for_each_kind_of_number(self):
        asked = []

        def work(x):
            asked.append(type(x))
            return operate("<", x * x, Ratio(2))

        told_row(work, 0, 5)
        self.assertEqual({kind.__name__ for kind in asked}, {"Ratio", "Strand", "Member"})

    def test_x_is_the_number_there(self):
        seen = []

        def work(x):
            seen.append(x)
            return "seen"

        told_row(work, -1, 1)
        strands = [x for x in seen if isinstance(x, Strand)]
        self.assertTrue(strands[0].curve == Curve(X) and strands[0].span == Span(-1, 1))

    def test_the_same_row_however_it_is_cut(self):
        def cut_at(poly, work):
            def cutting(x):
                if isinstance(x, Strand) and roots_in(poly, x.span):
                    raise Turns(poly)
                return work(x)
            return cutting

        works = [size, lambda x: x * x - 3, lambda x: call("MAX", [x, x * x]), lambda x: operate("/", Ratio(1), x), nothing]
        polys = [X, X - 1, X * X - 2, X * X * X - 2, (X - 3) * (X + 3) * (2 * X - 1), X * X + 1]
        for work in works:
            for low, high in ((None, None), (-5, None), (Ratio(-1, 2), 7)):
                plain = told_row(work, low, high)
                for poly in polys:
                    self.assertEqual(told_row(cut_at(poly, work), low, high), plain)
                    self.assertEqual(told_row(cut_at(poly * (X - 2), cut_at(X * X - 2, work)), low, high), plain)

    def test_cuts_at_all_roots(self):
        poly = (X - 1) * (X - 2) * (X * X - 2)

        def work(x):
            if isinstance(x, Strand):
                if roots_in(poly, x.span):
                    raise Turns(poly)
                return x * 0
            return x

        row = told_row(work, 0, 5)
        self.assertEqual(row_text(row), "0: 0 | (0,1): 0 | 1: 1 | (1,~1.414): 0 | ~1.414: ~1.414 | (~1.414,2): 0 | 2: 2"
                                        " | (2,5): 0 | 5: 5")
        self.assertEqual(row[4].point, ROOT)
        self.assertIsInstance(row[4].value, Member)
        self.assertEqual(row[4].value.point, ROOT)

    def test_one_curve_on_both_sides_and_its_worth(self):
        def work_with(value):
            def work(x):
                if isinstance(x, Strand):
                    if roots_in(X * X - 2, x.span):
                        raise Turns(X * X - 2)
                    return x * x + x
                return value if isinstance(x, Member) and x.sign() > 0 else x * x + x
            return work

        self.assertEqual(row_text(told_row(lambda x: x * x + x)), "(,): x^2 + x")
        # 2 + x is the worth of x * x + x at the root of 2, but not as it is written.
        point = ROOT
        right = isolate(X * X - 2, 0, None)[0]
        self.assertEqual(point, right)
        told = told_row(lambda x: work_with(x + 2)(x))
        self.assertEqual(row_text(told), "(,): x^2 + x")
        told = told_row(work_with(Ratio(3)))
        self.assertEqual(row_text(told), "(,~1.414): x^2 + x | ~1.414: 3 | (~1.414,): x^2 + x")

    def test_points_beyond_the_curve(self):
        told = told_row(lambda x: operate("/", x * x - x * 2, x))
        self.assertEqual(row_text(told), "(,0): x - 2 | 0: #DIV | (0,): x - 2")

    def test_texts_with_unlike_capitals_are_not_the_same(self):
        told = told_row(lambda x: "a" if x.sign() < 0 else "A")
        self.assertEqual(row_text(told), "(,0): 'a' | 0: 'A' | (0,): 'A'")

    def test_many_parts(self):
        def steps(most):
            return lambda x: Ratio(0) if (x - most).sign() > 0 else Ratio(x.floor())

        self.assertEqual(len(told_row(steps(149), 0)), 300)
        self.fails(NotTold, {}, told_row, steps(150), 0)
        self.fails(NotTold, {}, told_row, steps(150), 0, 300)
        self.fails(NotTold, {}, told_row, lambda x: Ratio(x.floor()))
        self.fails(NotTold, {}, told_row, lambda x: Ratio(x.floor() * 0))
        self.assertEqual(row_text(told_row(lambda x: Ratio(x.floor() * 0), -400, 400)), "-400: 0 | (-400,400): 0 | 400: 0")

    def test_errors_of_the_work(self):
        def told(x):
            raise NotTold()

        def high(x):
            return x.power(61)

        def digits(x):
            raise TooHigh(3000)

        self.fails(NotTold, {}, told_row, told)
        self.fails(TooHigh, {"most": 60}, told_row, high)
        self.fails(TooHigh, {"most": 3000}, told_row, digits, 0, 1)
        self.fails(NotTold, {}, told_row, lambda x: call("LEN", [x]))

    def test_the_same_as_a_book(self):
        book = book_of({"B1": "=IF(A1*A1>2,1/(A1-3),MIN(A1,0.5))", "B2": "=B1*B1-A1"})
        told = Told(book, "A1", -4, 4)

        def first(x):
            if operate(">", operate("*", x, x), Ratio(2)):
                return operate("/", Ratio(1), operate("-", x, Ratio(3)))
            return call("MIN", [x, Ratio(1, 2)])

        def second(x):
            one = first(x)
            return operate("-", operate("*", one, one), x)

        self.assertEqual(told_row(first, -4, 4), told.pieces("B1"))
        self.assertEqual(told_row(second, -4, 4), told.pieces("B2"))
        self.assertEqual(told_row(work=second, high=4, low=-4), told.pieces("B2"))

    def test_wrong_arguments(self):
        for value in (None, 1, True, 1.5, "x", [size], (size,), {}, Ratio(1), X, Curve(X), ROOT, Span(0, 1), object(),
                      Fault("NA"), book_of({})):
            self.bad(value, told_row, value, 5, 1)
        for value in NO_RATIOS + (ROOT,):
            self.bad(value, told_row, size, value, value)
            self.bad(value, told_row, size, None, value)
        for low, high in ((1, 1), (Ratio(3), 2)):
            self.bad(high, told_row, size, low, high)

    def test_functions_of_all_sorts(self):
        class Adder:
            def __call__(self, x):
                return x + 1

            def add(self, x):
                return x + 2

        self.assertEqual(row_text(told_row(Adder())), "(,): x + 1")
        self.assertEqual(row_text(told_row(Adder().add)), "(,): x + 2")
        self.assertIsInstance(told_row(size)[1].point, Ratio)
        self.assertNotIsInstance(told_row(size)[1].point, Point)
