"""[2], [8], [89]: strands."""

import random

from allinputs.curves import Curve
from allinputs.errors import NotTold, TooHigh, Turns
from allinputs.points import Point
from allinputs.polys import Poly
from allinputs.ratios import Ratio
from allinputs.spans import Span
from allinputs.strands import Strand, strand
from tests.helper import NO_INTEGERS, ROOT, UNIT, UP, WIDE, X, Case, root_member, root_strand

ONE = Poly([1])
LOWER = Point(X * X - 2, -2, 0)


def number(top, span, bottom=None):
    return strand(Curve(top, bottom), span)


class Strands(Case):
    def turns(self, poly, call, *arguments):
        error = self.fails(Turns, {"poly": poly}, call, *arguments)
        self.assertEqual(error.poly, error.poly.plain())

    def test_made(self):
        one = strand(curve=Curve(X, X + 1), span=UP)
        self.assertIs(type(one), Strand)
        self.assertEqual((one.curve, one.span), (Curve(X, X + 1), UP))
        self.assertIsNone(one.ratio())

    def test_level_ones_are_ratios(self):
        for poly, ratio in ((Poly([]), Ratio(0)), (Poly([3]), Ratio(3)), (Poly([-7]), Ratio(-7))):
            told = number(poly, WIDE)
            self.assertIs(type(told), Ratio)
            self.assertEqual(told, ratio)
        self.assertEqual(number(2 * X, UP, 3 * X), Ratio(2, 3))
        self.assertEqual(number(2 * X, WIDE, 3 * X), Ratio(2, 3))

    def test_bottoms_with_roots(self):
        self.fails(NotTold, {}, number, ONE, WIDE, X)
        self.fails(NotTold, {}, number, ONE, Span(0, 2), X * X - 2)
        self.fails(NotTold, {}, number, ONE, Span(0, 2), (X - 1) * (X - 1))
        self.fails(NotTold, {}, number, ONE, Span(0, Point(X * X - 3, 0, 2)), X * X - 2)
        for bottom, span in ((X, UP), (X - 1, UNIT), (X * (X - 1), UNIT), (X * X - 2, Span(LOWER, ROOT)),
                             (X * X - 2, Span(ROOT, None)), (X * X + 1, WIDE), (X * X - 2, Span(None, LOWER))):
            self.assertIs(type(number(ONE, span, bottom)), Strand)

    def test_wrong_arguments(self):
        for value in (X, None, 1, Ratio(1), "x", root_strand(), ROOT):
            self.bad(value, strand, value, UP)
            self.bad(value, strand, value, "y")
        for value in (None, (0, 1), "x", Curve(X), ROOT):
            self.bad(value, strand, Curve(ONE, X), value)

    def test_equality(self):
        self.assertTrue(root_strand() == root_strand(Span(linear_nought(), None)))
        self.assertFalse(root_strand() == root_strand(UNIT))
        self.assertFalse(root_strand() == root_strand() + 1)
        for other in (None, 1, "x", Curve(X), X, root_member(), Ratio(1), UP):
            self.assertFalse(root_strand() == other)

    def test_operators(self):
        random.seed(31)
        place = UNIT.inner()
        for _ in range(60):
            tops = [Poly([random.randint(-3, 3) for _ in range(3)]) for _ in range(2)]
            one, other = number(tops[0], UNIT, X + 1), number(tops[1], UNIT, X * X + 2)
            if not isinstance(one, Strand) or not isinstance(other, Strand):
                continue
            first, second = one.curve.worth_at(place), other.curve.worth_at(place)
            ratio, whole = Ratio(random.randint(-5, 5), random.randint(1, 5)), random.randint(-3, 3)
            told = [(one + other, first + second), (one - other, first - second), (one * other, first * second),
                    (one + ratio, first + ratio), (ratio + one, ratio + first), (one - ratio, first - ratio),
                    (ratio - one, ratio - first), (one * ratio, first * ratio), (ratio * one, ratio * first),
                    (one + whole, first + whole), (whole + one, whole + first), (one - whole, first - whole),
                    (whole - one, whole - first), (one * whole, first * whole), (whole * one, whole * first),
                    (-one, -first), (one.power(3), first.power(3))]
            for result, worth in told:
                if isinstance(result, Strand):
                    self.assertEqual((result.curve.worth_at(place), result.span), (worth, UNIT))
                    self.assertFalse(result.curve.is_level())
                else:
                    self.assertIs(type(result), Ratio)
                    self.assertEqual(result, worth)

    def test_results_that_are_ratios(self):
        one = root_strand()
        for told, ratio in ((one - one, Ratio(0)), (one + -one, Ratio(0)), (one * 0, Ratio(0)), (0 * one, Ratio(0)),
                            (one * Ratio(0), Ratio(0)), (one * one.inverse(), Ratio(1)), (one.power(0), Ratio(1)),
                            ((one + 1) - one, Ratio(1)), ((one - 2).power(0), Ratio(1))):
            self.assertIs(type(told), Ratio)
            self.assertEqual(told, ratio)

    def test_equal_spans_go_together(self):
        one, other = root_strand(Span(ROOT, 2)), root_strand(Span(Point(X * X * X - 2 * X, 1, 2), 2))
        self.assertEqual((one + other).curve, Curve(2 * X))
        self.assertEqual(one - other, Ratio(0))

    def test_wrong_operands(self):
        one = root_strand()
        wrong = (True, False, 1.5, "1", None, [1], (1,), {}, X, Curve(X), object(), ROOT, root_member(), UP,
                 root_strand(UNIT), root_strand(Span(-1, None)), root_strand(WIDE))
        for value in wrong:
            self.bad(value, lambda: one + value)
            self.bad(value, lambda: one - value)
            self.bad(value, lambda: one * value)
        for value in (True, False, 1.5, "1", None, [1], (1,), {}, object(), ROOT, UP):
            self.bad(value, lambda: value + one)
            self.bad(value, lambda: value - one)
            self.bad(value, lambda: value * one)
        # Ahead of what would be too high.
        high, low = number(X.__class__([0] * 60 + [1]), UP), root_strand(UNIT)
        self.bad(low, lambda: high * low)

    def test_sign(self):
        for poly, span, sign in ((X, UP, 1), (X, Span(None, 0), -1), (X - 1, UNIT, -1), (X * X - 2, Span(ROOT, None), 1),
                                 (X * X - 2, Span(LOWER, ROOT), -1), (X * X + 1, WIDE, 1), (-X * X - 1, WIDE, -1)):
            self.assertEqual(number(poly, span).sign(), sign)
        self.assertEqual(number(ONE, UNIT, X - 1).sign(), -1)
        self.assertEqual(number(X - 2, UNIT, X - 1).sign(), 1)
        self.turns(X, root_strand(WIDE).sign)
        self.turns(X * X - 2, number(-6 * X * X + 12, UP, X + 5).sign)
        self.turns(X - 1, number((X - 1) * (X - 1), UP).sign)
        self.turns((X - 1) * (X + 3), number((X - 1) * (X - 1) * (X + 3), UP).sign)

    def test_inverse(self):
        self.assertEqual(root_strand().inverse().curve, Curve(ONE, X))
        self.assertEqual(number(X * X - 2, Span(ROOT, None)).inverse().curve, Curve(ONE, X * X - 2))
        self.turns(X, root_strand(WIDE).inverse)
        self.turns(2 * X - 1, number(2 - 4 * X, UNIT).inverse)
        self.turns(X - 1, number((X - 1) * (X - 1), UP).inverse)
        self.turns(X * X - 2, number(X * X - 2, Span(0, Point(X * X - 3, 0, 2))).inverse)

    def test_power(self):
        one = number(X - 1, UP, X + 1)
        self.assertEqual(one.power(3).curve, Curve(X - 1, X + 1).power(3))
        self.assertEqual(one.power(exponent=1), one)
        self.assertEqual(number(X - 1, UNIT).power(-2).curve, Curve(ONE, (X - 1) * (X - 1)))
        self.assertEqual(one.power(0), Ratio(1))
        self.turns(X - 1, one.power, -1)
        self.turns(X - 1, number((X - 1) * (X - 1), UP).power, -3)
        self.turns(X - 1, one.power, -64)
        self.fails(TooHigh, {"most": 60}, one.power, 61)
        self.fails(TooHigh, {"most": 60}, number(X - 1, UNIT).power, -61)
        for value in NO_INTEGERS:
            self.bad(value, one.power, value)

    def test_floor(self):
        for poly, span, bottom, floor in (
                (X, UNIT, None, 0), (X, Span(2, 3), None, 2), (-X, UNIT, None, -1), (X, Span(Ratio(1, 3), 1), None, 0),
                (ONE, Span(1, None), X, 0), (ONE, Span(None, -1), X, -1), (X * X, Span(ROOT, Ratio(3, 2)), None, 2),
                (X * X, Span(1, ROOT), None, 1), (X * X, WIDE, X * X + 1, None), (X * X, UP, X * X + 1, 0),
                (X, Span(Ratio(7, 10), Ratio(8, 10)), Poly([10]), 0), (X + 7, UNIT, None, 7)):
            if floor is not None:
                self.assertEqual(number(poly, span, bottom).floor(), floor)
        for poly, span, roots in ((X, Span(0, 2), [X - 1]), (X, WIDE, [X, X - 1]), (-2 * X, UNIT, [2 * X - 1]),
                                  (X * X, Span(1, 2), [X * X - 2, X * X - 3, X * X - 1]), (X * X, WIDE, [X, X * X - 1])):
            with self.assertRaises(Turns) as caught:
                number(poly, span).floor()
            self.assertIn(caught.exception.poly, roots)
        # One that goes beyond the next integer alone, one that falls below its own alone, one that does neither.
        half = root_strand(Span(Ratio(3, 4), Ratio(7, 4))) + Ratio(1, 2)
        self.turns(2 * X - 3, half.floor)
        self.turns(3 * X - 5, (root_strand(Span(Ratio(5, 6), Ratio(7, 4))) + Ratio(1, 3)).floor)
        self.turns(2 * X - 1, (root_strand(Span(Ratio(1, 4), Ratio(5, 4))) + Ratio(1, 2)).floor)
        self.assertEqual((root_strand(Span(Ratio(3, 4), Ratio(5, 4))) + Ratio(1, 2)).floor(), 1)
        self.assertEqual((root_strand(Span(Ratio(1, 2), Ratio(3, 2))) + Ratio(1, 2)).floor(), 1)
        self.assertEqual((root_strand(Span(Ratio(1, 2), Ratio(3, 2))) - Ratio(5, 2)).floor(), -2)
        # A floor that holds but for one place, at which the strand touches an integer.
        self.turns(X, number(-X * X, Span(Ratio(-1, 2), Ratio(1, 2))).floor)
        self.turns(X, number(X * X, WIDE, X * X + 1).floor)
        self.turns(X - 1, number(-1 * (X - 1) * (X - 1), Span(Ratio(1, 2), Ratio(3, 2))).floor)

    def test_too_high(self):
        one = root_strand()
        high = one.power(60)
        self.fails(TooHigh, {"most": 60}, lambda: high * one)
        self.fails(TooHigh, {"most": 60}, lambda: high + one.inverse())
        self.assertEqual(high * one.inverse(), one.power(59))
        self.fails(TooHigh, {"most": 60}, lambda: one + 10 ** 3000)
        self.fails(TooHigh, {"most": 60}, lambda: Ratio(1, 10 ** 3000) * one)

    def test_nothing_changes(self):
        one, other = root_strand(UNIT), number(X * X - 2, UNIT)
        one + other, one - other, one * other, -one, one.inverse(), one.power(2), one.sign(), one.floor()
        self.assertEqual((one, other), (root_strand(UNIT), number(X * X - 2, UNIT)))


def linear_nought():
    return Point(X, -1, 1)
