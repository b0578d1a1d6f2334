"""[2], [5], [6], [86]: points."""

import random
from fractions import Fraction
from math import isqrt

from allinputs.curves import Curve
from allinputs.points import Point, count_roots, isolate
from allinputs.polys import Poly
from allinputs.ratios import Ratio
from tests.helper import CUBE, NO_INTEGERS, NO_RATIOS, ROOT, X, Case, fraction, linear, root_member

NONE = Poly([])
FOURTH = X * X * X * X - 10 * X * X + 1


def sign_of_fraction(parts, place):
    worth = sum(part * place ** at for at, part in enumerate(parts))
    return (worth > 0) - (worth < 0)


class CountingRoots(Case):
    def test_ends(self):
        square = X * X - 1
        told = [(None, None, 2), (-1, 1, 0), (-1, 2, 1), (-2, 1, 1), (0, None, 1), (1, None, 0), (None, 1, 1),
                (None, -1, 0), (Ratio(-3, 2), Ratio(3, 2), 2), (Ratio(1, 2), Ratio(99, 100), 0)]
        for low, high, many in told:
            self.assertEqual(count_roots(square, low, high), many)
            self.assertEqual(len(isolate(square, low, high)), many)
        self.assertEqual(count_roots(poly=X, low=None, high=5), 1)

    def test_unlike_roots_are_counted_once(self):
        self.assertEqual(count_roots((X - 1) * (X - 1) * (X + 2) * 7, None, None), 2)
        self.assertEqual(count_roots(X * X * X * X, None, None), 1)
        self.assertEqual(count_roots((X * X - 2) * (X * X - 2), 0, None), 1)

    def test_polys_without_roots(self):
        for poly in (Poly([3]), X * X + 1, (X * X + 1) * (X * X + X + 1), Poly([-1])):
            self.assertEqual(count_roots(poly, None, None), 0)
            self.assertEqual(isolate(poly, None, None), ())

    def test_roots_beside_ends(self):
        near = 10 ** 40
        poly = (near * X - 1) * (near * X + 1) * X
        self.assertEqual(count_roots(poly, 0, None), 1)
        self.assertEqual(count_roots(poly, Ratio(1, near), None), 0)
        self.assertEqual(count_roots(poly, Ratio(1, near + 1), None), 1)
        self.assertEqual(count_roots(poly, Ratio(-1, near), Ratio(1, near)), 1)
        self.assertEqual(count_roots(poly, Ratio(-2, near), Ratio(2, near)), 3)
        self.assertEqual(count_roots(X * X - 2, Ratio(isqrt(2 * 10 ** 80), 10 ** 40), None), 1)
        self.assertEqual(count_roots(X * X - 2, Ratio(isqrt(2 * 10 ** 80) + 1, 10 ** 40), None), 0)

    def test_polys_of_the_first_degree(self):
        for low, high, many in ((0, 1, 1), (Ratio(1, 3), 1, 0), (0, Ratio(1, 3), 0), (1, 2, 0), (-1, 0, 0), (None, 0, 0),
                                (None, Ratio(1, 3), 0), (Ratio(1, 3), None, 0), (None, 1, 1), (0, None, 1), (None, None, 1),
                                (Ratio(33, 100), Ratio(34, 100), 1), (5, None, 0), (None, -5, 0)):
            for poly in (3 * X - 1, 1 - 3 * X, (3 * X - 1) * (3 * X - 1) * 5):
                self.assertEqual(count_roots(poly, low, high), many)
                self.assertEqual([str(point.ratio()) for point in isolate(poly, low, high)], ["1/3"] * many)
        self.bad(1, Point, 3 * X - 1, Ratio(1, 3), 1)
        high = Ratio(1, 3)
        self.bad(high, Point, 3 * X - 1, 0, high)

    def test_known_roots(self):
        random.seed(11)
        for _ in range(150):
            roots = [Ratio(random.randint(-9, 9), random.randint(1, 4)) for _ in range(random.randint(1, 5))]
            poly = Poly([random.choice([1, -3])]) * (X * X + random.randint(1, 3))
            for root in roots:
                poly = poly * (root.bottom * X - root.top)
            low, high = sorted(random.sample(range(-10, 11), 2))
            ends = [(low, high), (None, high), (low, None), (None, None), (Ratio(low, 3), Ratio(high, 3))]
            for first, last in ends:
                inside = {fraction(root) for root in roots
                          if (first is None or root.compare(first) > 0) and (last is None or root.compare(last) < 0)}
                self.assertEqual(count_roots(poly, first, last), len(inside))
                told = isolate(poly, first, last)
                self.assertEqual([fraction(point.ratio()) for point in told], sorted(inside))

    def test_wrong_arguments(self):
        for call in (count_roots, isolate):
            for value in (NONE, None, 1, Ratio(1), [1, 2], "x", True, Curve(X), ROOT):
                self.bad(value, call, value, 0, 1)
                self.bad(value, call, value, 1, "x")
            for value in NO_RATIOS + (ROOT,):
                self.bad(value, call, X, value, 1)
                self.bad(value, call, X, value, "y")
                self.bad(value, call, X, 0, value)
            for low, high in ((1, 1), (2, 1), (Ratio(1, 2), Ratio(1, 2)), (1, Ratio(1, 2))):
                self.bad(high, call, X, low, high)


class Isolating(Case):
    def test_ascending_and_all(self):
        poly = (X * X - 2) * (X * X - 3) * (3 * X - 4) * X * (X * X + 5)
        points = isolate(poly, None, None)
        self.assertEqual([point.digits(3) for point in points],
                         ["-1.732", "-1.414", "0.000", "1.333", "1.414", "1.732"])
        self.assertIsInstance(points, tuple)
        for at, point in enumerate(points):
            self.assertIsInstance(point, Point)
            self.assertEqual(point.sign_of(poly), 0)
            for step, other in enumerate(points):
                self.assertEqual(point.compare(other), (at > step) - (at < step))

    def test_double_roots(self):
        points = isolate((X * X - 2) * (X * X - 2) * (X - 1) * (X - 1) * (X - 1), 0, None)
        self.assertEqual(points, (linear(Ratio(1)), ROOT))

    def test_close_roots(self):
        near = 10 ** 30
        poly = (X * X - 2) * (near * near * X * X - 2 * near * near - 1)
        points = isolate(poly, 0, None)
        self.assertEqual(len(points), 2)
        self.assertEqual(points[0], ROOT)
        self.assertEqual(points[1].compare(ROOT), 1)
        self.assertEqual(points[1].compare(points[0]), 1)

    def test_many_roots(self):
        poly = Poly([1])
        for root in range(-20, 21):
            poly = poly * (X - root)
        self.assertEqual([str(point.ratio()) for point in isolate(poly, None, None)],
                         [str(root) for root in range(-20, 21)])
        points = isolate(poly + 1, None, None)
        self.assertEqual(len(points), 41)
        self.assertEqual([point.ratio() for point in points], [None] * 41)

    def test_great_parts(self):
        great = 10 ** 2999
        points = isolate((X - great) * (great * X - 1) * (X * X - 2), None, None)
        self.assertEqual([str(point.ratio()) if point.ratio() else point.digits(2) for point in points],
                         ["-1.41", "1/" + str(great), "1.41", str(great)])
        self.assertEqual(isolate(X * X - 10 ** 2998, None, 0)[0].ratio(), Ratio(-10 ** 1499))
        self.assertEqual(isolate(Poly([-2] + [0] * 62 + [1]), None, None)[0].digits(9), "1.011063084")


class Points(Case):
    def test_wrong_arguments(self):
        for value in (NONE, None, 1, Ratio(1), [1, 2], "x", True, Curve(X), ROOT):
            self.bad(value, Point, value, 0, 1)
            self.bad(value, Point, value, "y", 1)
        for value in NO_RATIOS + (None, ROOT):
            self.bad(value, Point, X, value, 1)
            self.bad(value, Point, X, value, "y")
            self.bad(value, Point, X, -1, value)

    def test_intervals_that_are_none(self):
        square = X * X - 2
        for low, high in ((2, 1), (1, 1), (Ratio(3, 2), Ratio(3, 2)), (2, 3), (-2, 2), (0, 1), (-1, 1)):
            self.bad(high, Point, square, low, high)
        for low, high in ((-1, 1), (1, 2), (0, 1), (-3, 3)):
            self.bad(high, Point, X * X - 1, low, high)
        self.bad(2, Point, Poly([5]), -2, 2)
        self.bad(9, Point, X * X + 1, -9, 9)

    def test_intervals_with_roots_as_ends(self):
        self.assertEqual(Point(X * X - 1, -1, 2).ratio(), Ratio(1))
        self.assertEqual(Point(X * (X * X - 2), 0, 2), ROOT)
        self.assertEqual(Point(X * (X * X - 2) * (X - 3), 0, 3), ROOT)
        self.assertEqual(Point(X * (X * X - 2) * (X - 3), 0, 3).digits(4), "1.4142")

    def test_a_root_that_comes_twice_counts_once(self):
        self.assertEqual(Point((X - 1) * (X - 1), 0, 2).ratio(), Ratio(1))
        self.assertEqual(Point((X * X - 2) * (X * X - 2), 0, 2), ROOT)
        self.assertEqual(Point(poly=-3 * X, low=-1, high=Ratio(1, 9)).ratio(), Ratio(0))

    def test_equal_points_of_unlike_polys(self):
        others = [Point(X * X * X - 2 * X, 1, 2), Point(-5 * (X * X - 2), Ratio(14, 10), Ratio(15, 10)),
                  Point((X * X - 2) * (X * X - 3), 1, Ratio(3, 2)), Point((X * X - 2) * (X * X - 2), 0, 100),
                  Point(X * X * X * X - 4, 0, 2)]
        for other in others:
            self.assertTrue(other == ROOT)
            self.assertFalse(other != ROOT)
            self.assertEqual(other.compare(ROOT), 0)
            self.assertEqual(ROOT.compare(other), 0)
        self.assertEqual(linear(Ratio(2, 3)), Point((3 * X - 2) * (X - 5), 0, 1))
        self.assertFalse(Point(X * X - 2, -2, 0) == ROOT)
        self.assertFalse(Point(X * X - 3, 0, 2) == ROOT)
        for other in (None, 1, "x", Ratio(1), X, root_member()):
            self.assertFalse(ROOT == other)
        self.assertFalse(linear(Ratio(1)) == Ratio(1))

    def test_order_of_points(self):
        near = 10 ** 30
        points = [Point(X * X - 2, -2, 0), linear(Ratio(0)), linear(Ratio(7, 5)), ROOT,
                  Point(near * X * X - 2 * near - 1, 0, 2), Point(X * X - 3, 1, 2), linear(Ratio(9, 5))]
        for at, one in enumerate(points):
            for step, other in enumerate(points):
                self.assertEqual(one.compare(other), (at > step) - (at < step))
        # Both polys have a root in both intervals, and a common one that is neither point.
        one, other = Point((X * X - 2) * (X - 10), 1, 2), Point((X * X - 3) * (X - 10), 1, 2)
        self.assertEqual([one.compare(other), other.compare(one)], [-1, 1])
        self.assertFalse(one == other)
        # The common factor has a root in each interval, but not the same one.
        one, other = Point((X * X - 2) * (X + 50), -2, 0), Point((X * X - 2) * (X + 60), 0, 2)
        self.assertEqual(one.compare(other), -1)

    def test_order_of_points_and_fractions(self):
        for places in (1, 5, 30):
            below = Ratio(isqrt(2 * 100 ** places), 10 ** places)
            above = below + Ratio(1, 10 ** places)
            self.assertEqual([ROOT.compare(below), ROOT.compare(above)], [1, -1])
            lower = Point(X * X - 2, -2, 0)
            self.assertEqual([lower.compare(-below), lower.compare(-above)], [-1, 1])
        self.assertEqual([ROOT.compare(1), ROOT.compare(2), ROOT.compare(other=-5)], [1, -1, 1])
        third = linear(Ratio(1, 3))
        self.assertEqual([third.compare(Ratio(1, 3)), third.compare(0), third.compare(1)], [0, 1, -1])
        for value in NO_RATIOS + (None, root_member()):
            self.bad(value, ROOT.compare, value)
            self.bad(value, third.compare, value)

    def test_sign_of(self):
        self.assertEqual(ROOT.sign_of(X * X * X - 3), -1)
        self.assertEqual(ROOT.sign_of(X * X * X - 2), 1)
        self.assertEqual(ROOT.sign_of((X * X - 2) * (X + 5)), 0)
        self.assertEqual(ROOT.sign_of(X * X * X * X - 4), 0)
        self.assertEqual(ROOT.sign_of(Poly([])), 0)
        self.assertEqual(ROOT.sign_of(poly=Poly([-3])), -1)
        # A common factor whose root in the interval is another one.
        point = Point((X * X - 2) * (X - 5), 0, 2)
        self.assertEqual(point.sign_of((X - 5) * (X + 1)), -1)
        self.assertEqual(point.sign_of((X * X - 2) * (X - 7)), 0)
        half = linear(Ratio(-1, 2))
        self.assertEqual([half.sign_of(2 * X + 1), half.sign_of(X), half.sign_of(Poly([2]))], [0, -1, 1])
        great = 10 ** 60
        self.assertEqual(ROOT.sign_of(great * X - isqrt(2 * great * great)), 1)
        self.assertEqual(ROOT.sign_of(great * X - isqrt(2 * great * great) - 1), -1)
        for value in (1, None, Ratio(1), "x", [1], True, Curve(X)):
            self.bad(value, ROOT.sign_of, value)
            self.bad(value, half.sign_of, value)

    def test_ratio(self):
        self.assertIsNone(ROOT.ratio())
        self.assertIsNone(CUBE.ratio())
        for ratio in (Ratio(0), Ratio(3), Ratio(-7, 12), Ratio(10 ** 50 + 1, 10 ** 50)):
            self.assertEqual(linear(ratio).ratio(), ratio)
            poly = (ratio.bottom * X - ratio.top) * (X * X - 2) * (7 * X + 100)
            self.assertEqual(Point(poly, ratio - Ratio(1, 10), ratio + Ratio(1, 10)).ratio(), ratio)
        self.assertIsNone(Point(6 * X * X - 7, 1, 2).ratio())
        self.assertEqual(Point(6 * X * X - 5 * X + 1, Ratio(2, 5), 3).ratio(), Ratio(1, 2))

    def test_between(self):
        for point in (ROOT, CUBE, Point(FOURTH, 3, 4), Point(X * X - 2, -2, 0), linear(Ratio(1, 3))):
            for width in (5, 1, Ratio(1, 10), Ratio(3, 10 ** 9), Ratio(1, 10 ** 100), Ratio(10 ** 20, 3)):
                told = point.between(width)
                self.assertIs(type(told), tuple)
                low, high = told
                self.assertLessEqual(low.compare(high), 0)
                self.assertLessEqual((high - low).compare(width), 0)
                self.assertTrue(point.compare(low) >= 0 and point.compare(high) <= 0)
        self.assertEqual(ROOT.between(width=1)[0].compare(2), -1)
        for value in NO_RATIOS + (None, 0, -1, Ratio(0), Ratio(-1, 2)):
            self.bad(value, ROOT.between, value)
            self.bad(value, linear(Ratio(1)).between, value)

    def test_digits(self):
        lower = Point(X * X - 2, -2, 0)
        self.assertEqual([ROOT.digits(places) for places in (0, 1, 2, 7)], ["1", "1.4", "1.41", "1.4142135"])
        self.assertEqual([lower.digits(places) for places in (0, 1, 2, 7)], ["-1", "-1.4", "-1.41", "-1.4142135"])
        small = Point(10 ** 6 * X * X - 2, 0, 1)
        self.assertEqual([small.digits(places) for places in (0, 2, 3, 5)], ["0", "0.00", "0.001", "0.00141"])
        below = Point(10 ** 6 * X * X - 2, -1, 0)
        self.assertEqual([below.digits(places) for places in (0, 2, 3, 5)], ["-0", "-0.00", "-0.001", "-0.00141"])
        told = [(Ratio(1, 2), 2, "0.50"), (Ratio(-1, 2), 2, "-0.50"), (Ratio(3), 0, "3"), (Ratio(-3), 1, "-3.0"),
                (Ratio(-1, 1000), 2, "-0.00"), (Ratio(-1, 3), 0, "-0"), (Ratio(0), 2, "0.00"), (Ratio(0), 0, "0"),
                (Ratio(-2, 3), 3, "-0.666"), (Ratio(2999, 1000), 2, "2.99"), (Ratio(123456), 1, "123456.0")]
        for ratio, places, text in told:
            self.assertEqual(linear(ratio).digits(places), text)
        many = isqrt(2 * 100 ** 1000)
        self.assertEqual(ROOT.digits(places=1000), "1." + str(many)[1:])
        # Decimals that go on with 9 or 0 for long.
        near = 10 ** 40
        self.assertEqual(Point(near * X * X - near - 1, 0, 2).digits(30), "1." + "0" * 30)
        self.assertEqual(Point(near * X * X - near + 1, 0, 2).digits(30), "0." + "9" * 30)
        self.assertEqual(Point(near * X * X - near + 1, -2, 0).digits(30), "-0." + "9" * 30)
        for value in NO_INTEGERS + (-1, 1001):
            self.bad(value, ROOT.digits, value)
            self.bad(value, linear(Ratio(1)).digits, value)

    def test_points_of_the_fourth_degree(self):
        # The roots are the sums of the roots of 2 and 3, with all signs.
        points = isolate(FOURTH, None, None)
        self.assertEqual([point.digits(6) for point in points], ["-3.146264", "-0.317837", "0.317837", "3.146264"])
        great = points[3]
        self.assertEqual([great.ratio(), great.compare(Ratio(22, 7)), great.compare(Ratio(3147, 1000))], [None, 1, -1])
        self.assertEqual(great.sign_of(X * X * X - 9 * X - 2 * 1), 1)
        # x * x * x - 9 x is twice the root of 2, so its square less 8 is 0.
        double = X * X * X - 9 * X
        self.assertEqual(great.sign_of(double * double - 8), 0)
        self.assertEqual([points[1].compare(points[2]), points[0].compare(points[3])], [-1, -1])
        self.assertEqual(Point(FOURTH * (X - 1), 2, 4), great)
        self.assertEqual(Point(FOURTH * FOURTH * X, Ratio(1, 4), 1), points[2])

    def test_worths_at_random_points(self):
        random.seed(12)
        for _ in range(60):
            poly = Poly([random.randint(-5, 5) for _ in range(6)])
            if not poly.parts:
                continue
            for point in isolate(poly, None, None):
                low, high = [fraction(end) for end in point.between(Ratio(1, 10 ** 12))]
                if low < high:
                    before, behind = [sign_of_fraction(poly.plain().parts, end) for end in (low, high)]
                    self.assertEqual(before * behind, -1)
                other = Poly([random.randint(-5, 5) for _ in range(4)])
                signs = {sign_of_fraction(other.parts, end) for end in (low, high)}
                if len(signs) == 1 and 0 not in signs:
                    self.assertEqual({point.sign_of(other)}, signs)

    def test_nothing_changes(self):
        point = Point(X * X - 2, 0, 2)
        before = {name: repr(value) for name, value in vars(point).items()}
        point.digits(50), point.between(Ratio(1, 10 ** 9)), point.compare(ROOT), point.sign_of(X), point.ratio()
        self.assertEqual({name: repr(value) for name, value in vars(point).items()}, before)
