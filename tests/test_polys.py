"""[2], [4], [85]: polys."""

import random
from fractions import Fraction
from math import gcd

from allinputs.commons import common_by_remainders, common_factor, resultant
from allinputs.curves import Curve
from allinputs.errors import NoDivisor, NotTold
from allinputs.polys import Poly
from allinputs.ratios import Ratio
from tests.helper import NO_INTEGERS, ROOT, X, Case, fraction


def worth(parts, place):
    return sum((part * Fraction(place) ** at for at, part in enumerate(parts)), Fraction(0))


def random_poly(many, most):
    return Poly([random.randint(-most, most) for _ in range(many)])


def left_by(one, other):
    """What is left of a list of Fractions by another one."""
    left = list(one)
    while len(left) >= len(other):
        head = left[-1] / other[-1]
        for at, part in enumerate(other):
            left[len(left) - len(other) + at] -= head * part
        left.pop()
    while left and left[-1] == 0:
        left.pop()
    return left


def common_by_fractions(one, other):
    """The common factor by dividing with fractions, made primitive."""
    first, second = [Fraction(part) for part in one.parts], [Fraction(part) for part in other.parts]
    while second:
        first, second = second, left_by(first, second) if len(first) >= len(second) else first
    if not first:
        return ()
    scale = 1
    for part in first:
        scale = scale * part.denominator // gcd(scale, part.denominator)
    whole = [int(part * scale) for part in first]
    shared = gcd(*whole) * (1 if whole[-1] > 0 else -1)
    return tuple(part // shared for part in whole)


class Polys(Case):
    def test_parts(self):
        self.assertEqual(Poly([1, 0, -2, 0, 0]).parts, (1, 0, -2))
        self.assertEqual(Poly((0, 0)).parts, ())
        self.assertEqual(Poly([]).parts, ())
        self.assertEqual(Poly(parts=(3,)).parts, (3,))
        self.assertIs(type(Poly([1, 2]).parts), tuple)

    def test_wrong_parts(self):
        for value in (None, 5, "12", {1: 2}, X, {1, 2}, Ratio(1), 1.5, range(3)):
            self.bad(value, Poly, value)
        for value in NO_INTEGERS:
            self.bad(value, Poly, [1, value, "later"])
            self.bad(value, Poly, (value,))

    def test_lists_that_change_afterwards(self):
        parts = [1, 2]
        poly = Poly(parts)
        parts.append(3)
        parts[0] = 9
        self.assertEqual(poly.parts, (1, 2))
        self.assertEqual(parts, [9, 2, 3])

    def test_equality(self):
        self.assertTrue(Poly([1, 2]) == Poly((1, 2, 0)))
        self.assertTrue(Poly([]) == Poly([0]))
        self.assertFalse(Poly([1, 2]) == Poly([1, 3]))
        self.assertFalse(Poly([1, 2]) == Poly([1, 2, 1]))
        for other in (1, Ratio(1), (1,), [1], "1", None, Curve(Poly([1])), ROOT):
            self.assertFalse(Poly([1]) == other)
        self.assertFalse(Poly([]) == 0)

    def test_operators(self):
        random.seed(2)
        for _ in range(200):
            one, other = random_poly(random.randint(0, 5), 3), random_poly(random.randint(0, 5), 3)
            whole = random.randint(-2, 2)
            for place in (-2, Fraction(1, 3), 0, 5):
                first, second = worth(one.parts, place), worth(other.parts, place)
                self.assertEqual(worth((one + other).parts, place), first + second)
                self.assertEqual(worth((one - other).parts, place), first - second)
                self.assertEqual(worth((one * other).parts, place), first * second)
                self.assertEqual(worth((one + whole).parts, place), first + whole)
                self.assertEqual(worth((whole + one).parts, place), first + whole)
                self.assertEqual(worth((one - whole).parts, place), first - whole)
                self.assertEqual(worth((whole - one).parts, place), whole - first)
                self.assertEqual(worth((one * whole).parts, place), first * whole)
                self.assertEqual(worth((whole * one).parts, place), first * whole)
                self.assertEqual(worth((-one).parts, place), -first)
            for told in (one + other, one - other, one * other, one * whole, one - one):
                self.assertTrue(not told.parts or told.parts[-1] != 0)
                self.assertIs(type(told.parts), tuple)
        self.assertEqual((X - X).parts, ())
        self.assertEqual((X * 0).parts, ())

    def test_wrong_operands(self):
        for value in (True, False, 1.5, "1", None, [1], (1,), {}, object(), Ratio(1), Curve(X), ROOT):
            self.bad(value, lambda: X + value)
            self.bad(value, lambda: X - value)
            self.bad(value, lambda: X * value)
        for value in (True, False, 1.5, "1", None, [1], (1,), {}, object(), b"a", ROOT):
            self.bad(value, lambda: value + X)
            self.bad(value, lambda: value - X)
            self.bad(value, lambda: value * X)
        # Of two operands that do not go together the other one of the left one's operator is told.
        self.bad(X, lambda: Ratio(1) + X)
        self.bad(X, lambda: Curve(X) * X)

    def test_degree_and_slope(self):
        for parts, degree in (([], -1), ([0], -1), ([5], 0), ([0, 2], 1), ([1, 2, 3, 0], 2)):
            self.assertEqual(Poly(parts).degree(), degree)
        self.assertEqual(Poly([7, 5, -3, 2]).slope(), Poly([5, -6, 6]))
        self.assertEqual(Poly([7]).slope(), Poly([]))
        self.assertEqual(Poly([]).slope(), Poly([]))

    def test_worth(self):
        random.seed(3)
        for _ in range(200):
            poly = random_poly(random.randint(0, 6), 5)
            place = Ratio(random.randint(-6, 6), random.randint(1, 6))
            told = poly.worth_at(place)
            self.assertIsInstance(told, Ratio)
            self.assertEqual((told.top, told.bottom), worth(poly.parts, fraction(place)).as_integer_ratio())
        self.assertEqual(Poly([1, 2]).worth_at(3), Ratio(7))
        self.assertEqual(Poly([]).worth_at(ratio=5), Ratio(0))
        self.assertEqual(str(Poly([0, 2]).worth_at(Ratio(1, 2))), "1")
        long = Poly([1] * 64)
        self.assertEqual(fraction(long.worth_at(Ratio(7, 10 ** 300))), worth(long.parts, Fraction(7, 10 ** 300)))
        for value in (True, 1.5, "1", None, X, [1]):
            self.bad(value, X.worth_at, value)

    def test_plain(self):
        self.assertEqual((X * X * X * 4).plain(), X)
        self.assertEqual((-6 * (X - 1) * (X - 1) * (2 * X + 3)).plain(), (X - 1) * (2 * X + 3))
        self.assertEqual(Poly([-5]).plain(), Poly([1]))
        self.assertEqual((4 * X * X + 4).plain(), X * X + 1)
        self.assertEqual((2 - X).plain(), X - 2)
        self.assertEqual(((X * X + 1) * (X * X + 1)).plain(), X * X + 1)
        self.fails(NotTold, {}, Poly([]).plain)
        random.seed(4)
        for _ in range(100):
            one, other = random_poly(3, 4), random_poly(3, 4)
            poly = one * one * other
            if poly.parts:
                plain = poly.plain()
                self.assertEqual(common_by_fractions(plain, plain.slope()), (1,))
                self.assertEqual(gcd(*plain.parts), 1)
                self.assertGreater(plain.parts[-1], 0)
                self.assertEqual(plain.plain(), plain)
                # All roots are kept: what is left out is a factor of a power of the plain form.
                power = plain * plain * plain * plain
                self.assertEqual(len(common_by_fractions(power, poly)), len(poly.parts))

    def test_common(self):
        self.assertEqual((X * X - 1).common(X * 2 - 2), X - 1)
        self.assertEqual((4 * X + 2).common(Poly([])), 2 * X + 1)
        self.assertEqual(Poly([]).common(-4 * X - 2), 2 * X + 1)
        self.assertEqual(Poly([]).common(Poly([])), Poly([]))
        self.assertEqual(Poly([]).common(Poly([-6])), Poly([1]))
        self.assertEqual(Poly([4]).common(Poly([6])), Poly([1]))
        self.assertEqual((6 * X).common(Poly([4])), Poly([1]))
        self.assertEqual((1 - X * X).common(other=3 - 3 * X), X - 1)
        random.seed(5)
        for _ in range(300):
            many = random.choice([1, 3, 10 ** 30])
            one, other, shared = random_poly(4, many), random_poly(3, many), random_poly(3, many)
            self.assertEqual((one * shared).common(other * shared).parts,
                             common_by_fractions(one * shared, other * shared))
        for value in (1, Ratio(1), None, [1], "x", True, Curve(X)):
            self.bad(value, X.common, value)

    def test_common_of_great_polys(self):
        random.seed(6)
        one, other, shared = random_poly(20, 10 ** 50), random_poly(25, 10 ** 60), random_poly(15, 10 ** 90)
        found = (one * shared).common(other * shared)
        self.assertEqual(found.degree(), shared.degree())
        self.assertEqual(shared.common(found), found)

    def test_common_with_parts_that_a_prime_divides(self):
        prime = 2 ** 61 - 1
        one, other = (prime * X + 1) * (X + 5), (prime * X + 1) * (X - 5)
        self.assertEqual(one.common(other), prime * X + 1)
        self.assertEqual((X - 1).common(X - 1 - prime), Poly([1]))
        self.assertEqual(((X - 1) * (X + 2)).common((X - 1 - prime) * (X + 3)), Poly([1]))
        self.assertEqual(common_by_remainders((-1, 0, 1), (-2, 2)), (-1, 1))
        self.assertEqual(common_by_remainders((2, 2), (0, 0, 1)), (1,))
        self.assertEqual(common_factor((), ()), ())

    def test_without(self):
        self.assertEqual((X * X - 1).without(X + 1), X - 1)
        self.assertEqual((6 * X + 4).without(Poly([2])), 3 * X + 2)
        self.assertEqual(Poly([]).without(X), Poly([]))
        self.assertEqual(X.without(other=-X), Poly([-1]))
        self.fails(NoDivisor, {}, X.without, Poly([]))
        self.fails(NoDivisor, {}, Poly([]).without, Poly([0]))
        for one, other in ((X, 2 * X), (X, X * X), (X * X, X + 1), (3 * X + 4, Poly([2])), (Poly([1]), X)):
            self.fails(NotTold, {}, one.without, other)
        random.seed(7)
        for _ in range(200):
            one, other = random_poly(4, 5), random_poly(4, 5)
            if other.parts:
                self.assertEqual((one * other).without(other), one)
        for value in (1, Ratio(1), None, [1], "x", True):
            self.bad(value, X.without, value)
            self.bad(value, Poly([]).without, value)

    def test_resultant(self):
        self.assertEqual(resultant((-2, 0, 1), (-3, 0, 1)), 1)
        self.assertEqual(resultant((-6, 1, 1), (-1, 3)), -50)
        self.assertEqual(resultant((1, 1), (1, 1)), 0)
        self.assertEqual(resultant((5,), (1, 2, 3)), 25)
        self.assertEqual(resultant((1, 2, 3), (5,)), 25)
        self.assertEqual(resultant((-2, 1), (0, 0, 0, 1)), 8)
        self.assertEqual(resultant((0, 0, 0, 1), (-2, 1)), -8)

    def test_resultant_by_roots(self):
        random.seed(8)
        for _ in range(300):
            roots = [random.randint(-4, 4) for _ in range(random.randint(0, 5))]
            lead = random.choice([1, -1, 3])
            one, other = Poly([lead]), random_poly(random.randint(1, 7), 3)
            for root in roots:
                one = one * (X - root)
            if random.random() < 0.5:
                # With parts left out the degrees fall by more than one.
                other = Poly([part for pair in other.parts for part in (pair, 0, 0)])
            if not other.parts:
                continue
            expected = Fraction(lead) ** other.degree()
            for root in roots:
                expected = expected * worth(other.parts, root)
            self.assertEqual(resultant(one.parts, other.parts), expected)
            sign = -1 if one.degree() % 2 and other.degree() % 2 else 1
            self.assertEqual(resultant(other.parts, one.parts), sign * expected)

    def test_nothing_changes(self):
        one, other = X * X - 1, X - 1
        one + other, one - other, one * other, -one, one.plain(), one.common(other), one.without(other), one.slope()
        self.assertEqual([one.parts, other.parts], [(-1, 0, 1), (-1, 1)])
