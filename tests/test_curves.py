"""[2], [7], [87], and of [8] what is refused as too high: curves."""

import random

from allinputs.curves import Curve, curve_text
from allinputs.errors import NoDivisor, TooHigh
from allinputs.polys import Poly
from allinputs.ratios import Ratio
from tests.helper import NO_INTEGERS, NO_RATIOS, ROOT, X, Case, fraction, root_member, root_strand

NONE, ONE, TWO = Poly([]), Poly([1]), Poly([2])
LONG = 10 ** 3000
TOO_HIGH = {"most": 60}


def power_of_x(many):
    return Poly([0] * many + [1])


class Curves(Case):
    def check(self, curve, top, bottom):
        self.assertEqual((curve.top.parts, curve.bottom.parts), (Poly(top).parts, Poly(bottom).parts))
        self.assertIsInstance(curve.top, Poly)
        self.assertIsInstance(curve.bottom, Poly)

    def test_lowest_terms(self):
        self.check(Curve(X), [0, 1], [1])
        self.check(Curve(X, None), [0, 1], [1])
        self.check(Curve(top=X * X - 1, bottom=X - 1), [1, 1], [1])
        self.check(Curve(4 * X + 2, 6 * X), [1, 2], [0, 3])
        self.check(Curve(4 * X + 2, -6 * X), [-1, -2], [0, 3])
        self.check(Curve(X, Poly([-2])), [0, -1], [2])
        self.check(Curve(2 * X, Poly([6])), [0, 1], [3])
        self.check(Curve(NONE, 5 * X - 2), [], [1])
        self.check(Curve((X * X - 2) * (X + 1) * 6, (X * X - 2) * (X - 1) * -4), [-3, -3], [-2, 2])
        self.check(Curve(3 * X + 3, 5 * X + 5), [3], [5])
        self.check(Curve(X - 1, 1 - X), [-1], [1])

    def test_wrong_arguments(self):
        for value in (None, 1, Ratio(1), [1], "x", True, Curve(X)):
            self.bad(value, Curve, value)
            self.bad(value, Curve, value, NONE)
            self.bad(value, Curve, value, "y")
        for value in (1, Ratio(1), [1], "x", True, False, Curve(X)):
            self.bad(value, Curve, X, value)
        self.fails(NoDivisor, {}, Curve, X, NONE)
        self.fails(NoDivisor, {}, Curve, NONE, NONE)
        self.fails(NoDivisor, {}, Curve, power_of_x(61), NONE)

    def test_equality(self):
        self.assertTrue(Curve(X * X, X) == Curve(X))
        self.assertFalse(Curve(X) == Curve(X + 1))
        self.assertFalse(Curve(X) == Curve(X, TWO))
        for other in (X, 1, None, "x", Ratio(1), ROOT):
            self.assertFalse(Curve(X) == other)
        self.assertFalse(Curve(ONE) == Ratio(1))

    def test_operators(self):
        random.seed(21)
        for _ in range(100):
            polys = [Poly([random.randint(-3, 3) for _ in range(3)]) for _ in range(4)]
            if not polys[1].parts or not polys[3].parts:
                continue
            one, other = Curve(polys[0], polys[1]), Curve(polys[2], polys[3])
            ratio, whole = Ratio(random.randint(-5, 5), random.randint(1, 5)), random.randint(-3, 3)
            place = Ratio(random.randint(50, 99), 7)
            first, second = one.worth_at(place), other.worth_at(place)
            told = [(one + other, first + second), (one - other, first - second), (one * other, first * second),
                    (one + ratio, first + ratio), (ratio + one, ratio + first), (one - ratio, first - ratio),
                    (ratio - one, ratio - first), (one * ratio, first * ratio), (ratio * one, ratio * first),
                    (one + whole, first + whole), (whole + one, whole + first), (one - whole, first - whole),
                    (whole - one, whole - first), (one * whole, first * whole), (whole * one, whole * first),
                    (-one, -first)]
            for curve, worth in told:
                self.assertIsInstance(curve, Curve)
                self.assertEqual(curve.worth_at(place), worth)
                self.assertEqual(Curve(curve.top, curve.bottom), curve)
                self.assertGreater(curve.bottom.parts[-1], 0)
        self.assertEqual(Curve(X) - Curve(X), Curve(NONE))
        self.check(Curve(ONE, X) + Curve(ONE, X), [2], [0, 1])
        self.check(Curve(X) * Curve(ONE, X), [1], [1])

    def test_wrong_operands(self):
        curve = Curve(X)
        for value in (True, False, 1.5, "1", None, [1], (1,), {}, X, object(), ROOT, root_strand(), root_member()):
            self.bad(value, lambda: curve + value)
            self.bad(value, lambda: curve - value)
            self.bad(value, lambda: curve * value)
        for value in (True, False, 1.5, "1", None, [1], (1,), {}, object(), ROOT):
            self.bad(value, lambda: value + curve)
            self.bad(value, lambda: value - curve)
            self.bad(value, lambda: value * curve)

    def test_inverse(self):
        self.check(Curve(-2 * X, X + 1).inverse(), [-1, -1], [0, 2])
        self.check(Curve(Poly([-3])).inverse(), [-1], [3])
        self.fails(NoDivisor, {}, Curve(NONE).inverse)

    def test_power(self):
        curve = Curve(2 * X - 1, X + 3)
        for exponent in range(-4, 5):
            place = Ratio(3, 7)
            self.assertEqual(curve.power(exponent).worth_at(place), curve.worth_at(place).power(exponent))
        self.check(Curve(-X).power(-3), [-1], [0, 0, 0, 1])
        self.check(Curve(NONE).power(0), [1], [1])
        self.check(Curve(NONE).power(2), [], [1])
        self.check(Curve(Poly([-2]), Poly([3])).power(exponent=-3), [-27], [8])
        self.check(Curve(X).power(60), [0] * 60 + [1], [1])
        self.check(Curve(Poly([2])).power(64), [2 ** 64], [1])
        self.fails(NoDivisor, {}, Curve(NONE).power, -1)
        for exponent in (61, -61, 64):
            self.fails(TooHigh, TOO_HIGH, Curve(X).power, exponent)
        self.fails(TooHigh, TOO_HIGH, Curve(ONE, X * X).power, 31)
        for value in NO_INTEGERS:
            self.bad(value, curve.power, value)
            self.bad(value, Curve(NONE).power, value)

    def test_level(self):
        for curve, is_level in ((Curve(X), False), (Curve(ONE, X), False), (Curve(NONE), True), (Curve(TWO), True),
                                (Curve(X, 2 * X), True), (Curve(ONE, TWO), True), (Curve(X, TWO), False)):
            self.assertIs(curve.is_level(), is_level)

    def test_worth(self):
        curve = Curve(X * X - 2, X - 3)
        self.assertEqual(curve.worth_at(Ratio(1, 2)), Ratio(7, 10))
        self.assertEqual(curve.worth_at(ratio=1), Ratio(1, 2))
        self.assertEqual(Curve((X - 3) * X, X - 3).worth_at(3), Ratio(3))
        self.fails(NoDivisor, {}, curve.worth_at, 3)
        self.fails(NoDivisor, {}, Curve(ONE, 2 * X - 1).worth_at, Ratio(1, 2))
        random.seed(22)
        for _ in range(50):
            place = Ratio(random.randint(-9, 9), random.randint(1, 9))
            worth = fraction(place)
            if worth != 3:
                self.assertEqual(fraction(curve.worth_at(place)), (worth * worth - 2) / (worth - 3))
        for value in NO_RATIOS + (None,):
            self.bad(value, curve.worth_at, value)

    def test_text(self):
        texts = [
            (Curve(X * X - 2), "x^2 - 2"), (Curve(X + 1, 2 * X), "(x + 1)/(2x)"), (Curve(X, TWO), "x/2"),
            (Curve(NONE), "0"), (Curve(Poly([5])), "5"), (Curve(Poly([-5])), "-5"), (Curve(X), "x"), (Curve(-X), "-x"),
            (Curve(2 * X * X * X), "2x^3"), (Curve(ONE, X), "1/(x)"), (Curve(Poly([-1]), X), "-1/(x)"),
            (Curve(ONE, TWO), "1/2"), (Curve(1 - X, TWO), "(-x + 1)/2"), (Curve(-2 * X * X, X + 1), "-2x^2/(x + 1)"),
            (Curve(3 * X * X * X - X - 7, X * X - 5), "(3x^3 - x - 7)/(x^2 - 5)"), (Curve(X * X + X), "x^2 + x"),
            (Curve(Poly([1, -1, 1, -2])), "-2x^3 + x^2 - x + 1"), (Curve(power_of_x(12) * 10 - 1), "10x^12 - 1"),
            (Curve(ONE, X * X * X), "1/(x^3)"),
        ]
        for curve, text in texts:
            self.assertEqual(curve_text(curve), text)
        self.assertEqual(curve_text(curve=Curve(X)), "x")
        for value in (X, None, 1, Ratio(1), "x"):
            self.bad(value, curve_text, value)

    def test_too_high_degrees(self):
        self.check(Curve(power_of_x(60)), [0] * 60 + [1], [1])
        self.fails(TooHigh, TOO_HIGH, Curve, power_of_x(61))
        self.fails(TooHigh, TOO_HIGH, Curve, ONE, power_of_x(61))
        self.fails(TooHigh, TOO_HIGH, Curve, X + 1, power_of_x(61))
        # What is in lowest terms counts.
        self.check(Curve(power_of_x(63), power_of_x(62)), [0, 1], [1])
        high = Curve(power_of_x(60) + 1)
        self.assertEqual(high + high, high * 2)
        self.fails(TooHigh, TOO_HIGH, lambda: high * Curve(X))
        self.fails(TooHigh, TOO_HIGH, lambda: high + Curve(ONE, X))
        self.fails(TooHigh, TOO_HIGH, lambda: high - Curve(ONE, X))
        self.assertEqual(high * high.inverse(), Curve(ONE))

    def test_too_long_parts(self):
        self.check(Curve(Poly([LONG - 1, 1])), [LONG - 1, 1], [1])
        self.check(Curve(Poly([1 - LONG, 1])), [1 - LONG, 1], [1])
        for parts in ([LONG, 1], [1, LONG], [-LONG], [0, 1, -LONG]):
            self.fails(TooHigh, TOO_HIGH, Curve, Poly(parts))
            self.fails(TooHigh, TOO_HIGH, Curve, X * X * X * X + 3, Poly(parts))
        self.check(Curve(Poly([LONG * 7]), Poly([LONG * 14])), [1], [2])
        near = Curve(Poly([LONG - 1, 1]))
        self.fails(TooHigh, TOO_HIGH, lambda: near + 1)
        self.fails(TooHigh, TOO_HIGH, lambda: 2 * near)
        self.fails(TooHigh, TOO_HIGH, lambda: near * Ratio(1, LONG))
        self.fails(TooHigh, TOO_HIGH, Curve(Poly([10 ** 100])).power, 31)
        self.check(near - LONG, [-1, 1], [1])
        self.check(LONG * Curve(X, Poly([LONG // 10])), [0, 10], [1])

    def test_nothing_changes(self):
        one, other = Curve(X, X + 1), Curve(X * X - 2)
        one + other, one - other, one * other, -one, one.inverse(), one.power(2), one.worth_at(1), curve_text(one)
        self.assertEqual([curve_text(one), curve_text(other)], ["x/(x + 1)", "x^2 - 2"])
