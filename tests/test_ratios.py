"""[2], [3], [84]: ratios."""

import random
from fractions import Fraction
from math import gcd

from allinputs.curves import Curve
from allinputs.errors import NoDivisor
from allinputs.ratios import Ratio
from tests.helper import NO_INTEGERS, NO_RATIOS, ROOT, UP, X, Case, fraction, root_member, root_strand

LONG = 10 ** 2999 + 7


class Ratios(Case):
    def test_lowest_terms(self):
        for top in range(-12, 13):
            for bottom in list(range(-12, 0)) + list(range(1, 13)):
                ratio = Ratio(top, bottom)
                self.assertEqual((ratio.top, ratio.bottom), Fraction(top, bottom).as_integer_ratio())
        self.assertEqual((Ratio(5).top, Ratio(5).bottom), (5, 1))
        self.assertEqual((Ratio(0, -9).top, Ratio(0, -9).bottom), (0, 1))
        self.assertEqual((Ratio(bottom=-4, top=6).top, Ratio(top=6, bottom=-4).bottom), (-3, 2))
        self.assertIs(type(Ratio(4, 2).top), int)

    def test_wrong_parts(self):
        for value in NO_INTEGERS:
            self.bad(value, Ratio, value)
            self.bad(value, Ratio, value, 0)
            self.bad(value, Ratio, 1, value)
        self.bad("a", Ratio, "a", "b")
        self.fails(NoDivisor, {}, Ratio, 1, 0)
        self.fails(NoDivisor, {}, Ratio, 0, 0)

    def test_equality(self):
        self.assertTrue(Ratio(1, 2) == Ratio(-2, -4))
        self.assertFalse(Ratio(1, 2) != Ratio(2, 4))
        self.assertFalse(Ratio(1, 2) == Ratio(1, 3))
        self.assertFalse(Ratio(1, 2) == Ratio(3, 2))
        for other in (3, 3.0, "3", True, None, Fraction(3), Curve(X * 0 + 3), X * 0 + 3):
            self.assertFalse(Ratio(3) == other)
            self.assertTrue(Ratio(3) != other)
        self.assertFalse(Ratio(1) == True)  # noqa: E712

    def test_operators(self):
        numbers = [Ratio(top, bottom) for top in range(-4, 5) for bottom in (1, 2, 3, 6)]
        for one in numbers:
            self.assertEqual(fraction(-one), -fraction(one))
            for other in numbers:
                self.assertEqual(fraction(one + other), fraction(one) + fraction(other))
                self.assertEqual(fraction(one - other), fraction(one) - fraction(other))
                self.assertEqual(fraction(one * other), fraction(one) * fraction(other))
            for whole in (-3, 0, 2):
                self.assertEqual(fraction(one + whole), fraction(one) + whole)
                self.assertEqual(fraction(whole + one), whole + fraction(one))
                self.assertEqual(fraction(one - whole), fraction(one) - whole)
                self.assertEqual(fraction(whole - one), whole - fraction(one))
                self.assertEqual(fraction(one * whole), fraction(one) * whole)
                self.assertEqual(fraction(whole * one), whole * fraction(one))
        for told in (Ratio(1, 6) + Ratio(1, 3), Ratio(2, 3) * 3, 1 - Ratio(1, 2), -Ratio(-1, 2)):
            self.assertEqual(gcd(told.top, told.bottom), 1)
            self.assertGreater(told.bottom, 0)
            self.assertIsInstance(told, Ratio)

    def test_wrong_operands(self):
        one = Ratio(1, 2)
        for value in (True, False, 1.5, "1", None, [1], (1,), {}, X, object(), UP, ROOT):
            self.bad(value, lambda: one + value)
            self.bad(value, lambda: one - value)
            self.bad(value, lambda: one * value)
        for value in (True, False, 1.5, "1", None, [1], (1,), {}, object(), UP, ROOT, b"a"):
            self.bad(value, lambda: value + one)
            self.bad(value, lambda: value - one)
            self.bad(value, lambda: value * one)

    def test_other_numbers_take_ratios_on_their_left(self):
        half = Ratio(1, 2)
        self.assertEqual(half + Curve(X), Curve(2 * X + 1, X * 0 + 2))
        self.assertEqual((half - root_strand()).curve, Curve(1 - 2 * X, X * 0 + 2))
        self.assertEqual((half * root_member()).curve, Curve(X, X * 0 + 2))

    def test_inverse(self):
        self.assertEqual(Ratio(-2, 3).inverse(), Ratio(-3, 2))
        self.assertEqual((Ratio(-2, 3).inverse().top, Ratio(-2, 3).inverse().bottom), (-3, 2))
        self.assertEqual(Ratio(5).inverse(), Ratio(1, 5))
        self.fails(NoDivisor, {}, Ratio(0).inverse)

    def test_power(self):
        for top in (-3, -1, 1, 2):
            for exponent in range(-5, 6):
                power = Ratio(top, 2).power(exponent)
                self.assertEqual((power.top, power.bottom), (Fraction(top, 2) ** exponent).as_integer_ratio())
        self.assertEqual(Ratio(0).power(0), Ratio(1))
        self.assertEqual(Ratio(0).power(3), Ratio(0))
        self.assertEqual((Ratio(0).power(3).top, Ratio(0).power(3).bottom), (0, 1))
        self.assertEqual(Ratio(2, 3).power(exponent=64), Ratio(2 ** 64, 3 ** 64))
        self.assertEqual(Ratio(-2, 3).power(-63), Ratio(-3 ** 63, 2 ** 63))
        self.fails(NoDivisor, {}, Ratio(0).power, -1)
        for value in NO_INTEGERS:
            self.bad(value, Ratio(2).power, value)
            self.bad(value, Ratio(0).power, value)

    def test_sign_and_floor(self):
        self.assertEqual([Ratio(top, 3).sign() for top in (-5, 0, 2)], [-1, 0, 1])
        for top in range(-9, 10):
            for bottom in (1, 2, 3, 4):
                self.assertEqual(Ratio(top, bottom).floor(), top // bottom)

    def test_compare(self):
        numbers = [Ratio(top, bottom) for top in range(-3, 4) for bottom in (1, 2, 3)]
        for one in numbers:
            for other in numbers + [-1, 0, 2]:
                right = fraction(other) if isinstance(other, Ratio) else other
                expected = (fraction(one) > right) - (fraction(one) < right)
                self.assertEqual(one.compare(other), expected)
        self.assertEqual(Ratio(1, 3).compare(other=Ratio(1, 2)), -1)
        for value in NO_RATIOS + (None, root_member(), ROOT):
            self.bad(value, Ratio(1).compare, value)

    def test_text(self):
        texts = [(3, 1, "3"), (-1, 3, "-1/3"), (0, 7, "0"), (10, 4, "5/2"), (-8, 2, "-4")]
        for top, bottom, text in texts:
            self.assertEqual(str(Ratio(top, bottom)), text)

    def test_great_numbers(self):
        random.seed(1)
        one, other = Ratio(LONG, 3 ** 5000), Ratio(-random.randrange(LONG), LONG)
        self.assertEqual(fraction(one + other), fraction(one) + fraction(other))
        self.assertEqual(fraction(one * other), fraction(one) * fraction(other))
        self.assertEqual(str(Ratio(LONG)), str(LONG))
        # Python itself writes no integers of more than 4,300 digits.
        power = Ratio(10 ** 2999, 7).power(3)
        self.assertEqual(str(power), "1" + "0" * (2999 * 3) + "/343")
        self.assertEqual(str(-(power + 0)), "-1" + "0" * (2999 * 3) + "/343")
        self.assertEqual(str(Ratio(10 ** 5000 + 123)), "1" + "0" * 4997 + "123")
        self.assertEqual(Ratio(LONG).power(-64), Ratio(1, LONG ** 64))

    def test_nothing_changes(self):
        one, other = Ratio(1, 2), Ratio(1, 3)
        one + other, one - other, one * other, -one, one.inverse(), one.power(3), one.compare(other)
        self.assertEqual([str(one), str(other)], ["1/2", "1/3"])
