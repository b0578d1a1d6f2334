"""[2], [8], [90], [91]: members and the order of numbers."""

import random
from fractions import Fraction
from math import isqrt

from allinputs.curves import Curve
from allinputs.errors import NoDivisor
from allinputs.members import Member, member
from allinputs.numbersorder import order_numbers
from allinputs.points import Point, isolate
from allinputs.polys import Poly
from allinputs.ratios import Ratio
from allinputs.worths import worth_point
from tests.helper import CUBE, NO_INTEGERS, NO_RATIOS, ROOT, UP, X, Case, linear, root_member, root_strand

ONE = Poly([1])
SAME = Point((X * X - 2) * (X * X - 3), 1, Ratio(3, 2))
LOWER = Point(X * X - 2, -2, 0)
FOURTH = isolate(X * X * X * X - 10 * X * X + 1, 3, None)[0]


def at_root(top, bottom=None, point=ROOT):
    return member(point, Curve(top, bottom))


def pair_of(top, bottom=(1,)):
    """The worth of a quotient at the root of 2, as the fractions a and b of a + b times the root."""
    def parts(poly):
        one = sum(Fraction(part) * 2 ** (at // 2) for at, part in enumerate(poly) if at % 2 == 0)
        other = sum(Fraction(part) * 2 ** (at // 2) for at, part in enumerate(poly) if at % 2 == 1)
        return one, other
    (a, b), (c, d) = parts(top), parts(bottom)
    size = c * c - 2 * d * d
    return (a * c - 2 * b * d) / size, (b * c - a * d) / size


def sign_of_pair(one, other):
    """The sign of one + other times the root of 2."""
    if one * other >= 0:
        return (one + other > 0) - (one + other < 0)
    if one * one == 2 * other * other:
        return 0
    return ((one > 0) - (one < 0)) if one * one > 2 * other * other else ((other > 0) - (other < 0))


class Members(Case):
    def check(self, told, pair):
        """A number at the root of 2 is a + b times this root."""
        one, other = pair
        if other == 0:
            self.assertIs(type(told), Ratio)
            self.assertEqual((told.top, told.bottom), one.as_integer_ratio())
            return
        self.assertIs(type(told), Member)
        self.assertEqual(told.point, ROOT)
        left = pair_of(told.curve.top.parts, told.curve.bottom.parts)
        self.assertEqual(left, (one, other))
        self.assertEqual(told.sign(), sign_of_pair(one, other))
        floor = told.floor()
        self.assertEqual(sign_of_pair(one - floor, other), 1)
        self.assertEqual(sign_of_pair(one - floor - 1, other), -1)

    def test_made(self):
        told = member(point=ROOT, curve=Curve(X))
        self.assertIs(type(told), Member)
        self.assertEqual(told.point, ROOT)
        self.assertIsNone(told.ratio())
        self.assertEqual(ROOT.compare(told.curve.worth_at(1)), 1)

    def test_members_that_are_ratios(self):
        for top, bottom, ratio in (
                (X * X, None, Ratio(2)), (X * X * X * X + 1, None, Ratio(5)), (X, X, Ratio(1)), (Poly([]), None, Ratio(0)),
                (Poly([7]), Poly([3]), Ratio(7, 3)), (X * X - 2, X + 1, Ratio(0)), (X * X + X - 2, 3 * X, Ratio(1, 3)),
                (X * X * X, X, Ratio(2)), (X + 1, X * X + X - 1, Ratio(1))):
            for point in (ROOT, SAME, LOWER):
                told = at_root(top, bottom, point)
                self.assertIs(type(told), Ratio)
                self.assertEqual(told, ratio)
        told = at_root(10 * X * X - X * X * X * X, None, FOURTH)
        self.assertEqual((type(told), told), (Ratio, Ratio(1)))
        double = X * X * X - 9 * X
        self.assertEqual(at_root(double * double, Poly([6]), FOURTH), Ratio(4, 3))
        self.assertIs(type(at_root(double, None, FOURTH)), Member)
        self.assertEqual(at_root(X * X * X + 1, X * X * X - 1, CUBE), Ratio(3))
        # A point whose poly has other roots, at which the curve is another number, or none.
        point = Point((X * X - 2) * (X - 5) * (3 * X - 1), 1, 2)
        self.assertEqual(at_root(X * X, None, point), Ratio(2))
        self.assertEqual(at_root((X - 5) * X + X * X * 7, (X - 5) * X + 14, point), Ratio(1))
        self.assertIs(type(at_root(ONE, X - 5, point)), Member)

    def test_points_that_are_ratios(self):
        self.assertEqual(member(linear(Ratio(1, 2)), Curve(X + 1, X)), Ratio(3))
        self.assertEqual(member(Point((X - 3) * (X * X - 2), 2, 4), Curve(X * X)), Ratio(9))
        self.fails(NoDivisor, {}, member, linear(Ratio(1, 2)), Curve(ONE, 2 * X - 1))

    def test_bottoms_that_are_0(self):
        self.fails(NoDivisor, {}, at_root, ONE, X * X - 2)
        self.fails(NoDivisor, {}, at_root, X, (X * X - 2) * (X + 1))
        self.fails(NoDivisor, {}, at_root, ONE, X * X - 2, SAME)
        self.assertIs(type(at_root(ONE, X * X - 3, SAME)), Ratio)
        self.assertEqual(at_root(X * (X * X - 2), X * X - 2).curve, Curve(X))

    def test_wrong_arguments(self):
        for value in (None, 1, Ratio(1), "x", X, Curve(X)):
            self.bad(value, member, value, Curve(X))
            self.bad(value, member, value, "y")
        for value in (None, 1, Ratio(1), "x", X, root_member()):
            self.bad(value, member, ROOT, value)

    def test_operators(self):
        random.seed(41)
        for _ in range(80):
            polys = [[random.randint(-3, 3) for _ in range(3)] for _ in range(4)]
            if any(parts[0] + 2 * parts[2] == 0 and parts[1] == 0 for parts in (polys[1], polys[3])):
                continue
            one, other = at_root(Poly(polys[0]), Poly(polys[1])), at_root(Poly(polys[2]), Poly(polys[3]))
            (a, b), (c, d) = pair_of(polys[0], polys[1]), pair_of(polys[2], polys[3])
            ratio, whole = Ratio(random.randint(-5, 5), random.randint(1, 5)), random.randint(-3, 3)
            part = Fraction(ratio.top, ratio.bottom)
            self.check(one, (a, b))
            self.check(one + other, (a + c, b + d))
            self.check(one - other, (a - c, b - d))
            self.check(one * other, (a * c + 2 * b * d, a * d + b * c))
            self.check(one + ratio, (a + part, b))
            self.check(ratio + one, (a + part, b))
            self.check(one - ratio, (a - part, b))
            self.check(ratio - one, (part - a, -b))
            self.check(one * ratio, (a * part, b * part))
            self.check(ratio * one, (a * part, b * part))
            self.check(one + whole, (a + whole, b))
            self.check(whole + one, (a + whole, b))
            self.check(one - whole, (a - whole, b))
            self.check(whole - one, (whole - a, -b))
            self.check(one * whole, (a * whole, b * whole))
            self.check(whole * one, (a * whole, b * whole))
            self.check(-one, (-a, -b))
            if a or b:
                size = a * a - 2 * b * b
                self.check(one.inverse(), (a / size, -b / size))
                self.check(one.power(-1), (a / size, -b / size))
            self.check(one.power(2), (a * a + 2 * b * b, 2 * a * b))
            self.check(one.power(0), (Fraction(1), Fraction(0)))

    def test_powers(self):
        root = root_member()
        self.assertEqual([str(root.power(exponent)) for exponent in (0, 2, 10, -4)], ["1", "2", "32", "1/4"])
        self.assertEqual(root.power(exponent=3), root + root)
        self.assertEqual(root.power(-1), root * Ratio(1, 2))
        self.assertEqual(root_member(CUBE).power(6), Ratio(4))
        for value in NO_INTEGERS:
            self.bad(value, root.power, value)

    def test_wrong_operands(self):
        root = root_member()
        wrong = (True, False, 1.5, "1", None, [1], (1,), {}, X, Curve(X), object(), ROOT, root_strand(), UP,
                 root_member(LOWER), root_member(CUBE), root_member(FOURTH))
        for value in wrong:
            self.bad(value, lambda: root + value)
            self.bad(value, lambda: root - value)
            self.bad(value, lambda: root * value)
            self.bad(value, root.compare, value)
        for value in (True, False, 1.5, "1", None, [1], (1,), {}, object(), ROOT, UP):
            self.bad(value, lambda: value + root)
            self.bad(value, lambda: value - root)
            self.bad(value, lambda: value * root)
        self.assertEqual(root + root_member(SAME), root * 2)

    def test_equality(self):
        root = root_member()
        self.assertTrue(root == root_member(SAME))
        self.assertTrue(root == at_root(2 * ONE, X))
        self.assertTrue(root == at_root(X * X * X, Poly([2]), SAME))
        self.assertFalse(root != at_root(X * X * X, Poly([2])))
        self.assertFalse(root == root + 1)
        self.assertFalse(root == at_root(-X, None, LOWER))
        self.assertFalse(root == root_member(LOWER))
        for other in (None, 1, "x", Ratio(1), Curve(X), X, ROOT, root_strand()):
            self.assertFalse(root == other)

    def test_sign_floor_and_compare(self):
        root = root_member()
        self.assertEqual([root.sign(), (-root).sign(), (root - 2).sign(), (Ratio(7, 5) - root).sign()], [1, -1, -1, -1])
        self.assertEqual([root.floor(), (-root).floor(), (root * 1000).floor(), (root * -1000).floor()],
                         [1, -2, 1414, -1415])
        great = 10 ** 100
        self.assertEqual((root * great).floor(), isqrt(2 * great * great))
        near = isqrt(2 * great * great)
        self.assertEqual([root.compare(Ratio(near, great)), root.compare(Ratio(near + 1, great))], [1, -1])
        self.assertEqual((root * great - near).floor(), 0)
        self.assertEqual([root.compare(1), root.compare(2), root.compare(other=root)], [1, -1, 0])
        self.assertEqual([root.compare(at_root(X * X * X)), root.compare(at_root(ONE, X)), root.compare(-root)],
                         [-1, 1, 1])
        self.assertEqual(root.compare(root_member(SAME) + Ratio(1, great)), -1)
        self.assertEqual(at_root(ONE, X - 2).compare(-1), -1)
        self.assertEqual(at_root(ONE, X - 2).compare(at_root(X, 2 * ONE - X)), -1)
        self.assertEqual(at_root(ONE, X - 2).sign(), -1)
        for value in NO_RATIOS + (None,):
            self.bad(value, root.compare, value)

    def test_digits(self):
        root = root_member()
        self.assertEqual([root.digits(places) for places in (0, 1, 5)], ["1", "1.4", "1.41421"])
        self.assertEqual([(-root).digits(places) for places in (0, 1, 5)], ["-1", "-1.4", "-1.41421"])
        self.assertEqual([(root * Ratio(1, 1000)).digits(places) for places in (0, 2, 3, 6)],
                         ["0", "0.00", "0.001", "0.001414"])
        self.assertEqual([(root * Ratio(-1, 1000)).digits(places) for places in (0, 2, 3, 6)],
                         ["-0", "-0.00", "-0.001", "-0.001414"])
        self.assertEqual((root + 10).digits(places=1000), "11." + str(isqrt(2 * 100 ** 1000))[1:])
        self.assertEqual(at_root(ONE, X - 1).digits(6), "2.414213")
        self.assertEqual(at_root(X * X, None, FOURTH).digits(6), "9.898979")
        for value in NO_INTEGERS + (-1, 1001):
            self.bad(value, root.digits, value)

    def test_members_near_integers(self):
        great = 10 ** 40
        above, below = Point(great * X * X - 4 * great - 1, 0, 3), Point(great * X * X - 4 * great + 1, 0, 3)
        for point, floor, other in ((above, 2, -3), (below, 1, -2)):
            one = root_member(point)
            self.assertEqual([one.floor(), (-one).floor(), (one * 5).floor(), (one - 2).sign()],
                             [floor, other, 10 if floor == 2 else 9, 1 if floor == 2 else -1])
            self.assertEqual([one.compare(2), (-one).compare(-2)], [1, -1] if floor == 2 else [-1, 1])
        self.assertEqual(root_member(above).digits(30), "2." + "0" * 30)
        self.assertEqual((-root_member(above)).digits(30), "-2." + "0" * 30)
        self.assertEqual(root_member(below).digits(30), "1." + "9" * 30)
        self.assertEqual((2 - root_member(above)).digits(10), "-0." + "0" * 10)

    def test_bottoms_near_0(self):
        great = 10 ** 40
        near = isqrt(2 * great * great)
        one = at_root(ONE, great * X - near)
        # 1 / (g r - n) is (g r + n) / (2 g g - n n).
        size = 2 * great * great - near * near
        self.assertEqual(one.floor(), (isqrt(2 * great * great) + near) // size)
        self.assertEqual([one.sign(), at_root(ONE, great * X - near - 1).sign()], [1, -1])
        self.assertEqual(at_root(great * X - near, great * X - near), Ratio(1))

    def test_unlike_curves_at_points_of_greater_degree(self):
        root = root_member(FOURTH)
        square = root * root
        self.assertEqual(square * square - square * 10, Ratio(-1))
        self.assertEqual(root.inverse(), root * 10 - root * root * root)
        self.assertEqual((root.inverse() + root).power(2), Ratio(12))
        self.assertEqual(((root - root.inverse()) * Ratio(1, 2)).digits(6), "1.414213")
        cube = root_member(CUBE)
        self.assertEqual((cube.power(2) + cube + 1) * (cube - 1), Ratio(1))
        self.assertEqual((cube - 1).inverse(), cube * cube + cube + 1)


class Worths(Case):
    def test_worths_as_points(self):
        random.seed(42)
        many = 0
        while many < 40:
            poly = Poly([random.randint(-9, 9) for _ in range(random.randint(3, 5))])
            top, bottom = [Poly([random.randint(-99, 99) for _ in range(random.randint(1, 5))]) for _ in range(2)]
            if not poly.parts or not bottom.parts:
                continue
            for point in isolate(poly, None, None):
                curve = Curve(top, bottom)
                if point.ratio() is None and point.sign_of(bottom) != 0:
                    told = member(point, curve)
                    if isinstance(told, Member):
                        many = many + 1
                        worth = worth_point(point, curve)
                        self.assertEqual(worth.digits(25), told.digits(25))
                        self.assertEqual(order_numbers(told, member(worth, Curve(X))), 0)
                        self.assertIsNone(worth.ratio())

    def test_roots_at_points_that_are_ratios(self):
        self.assertIs(linear(Ratio(1, 2)).is_root_of(2 * X - 1), True)
        self.assertIs(linear(Ratio(1, 2)).is_root_of(2 * X + 1), False)


class Order(Case):
    def test_ratios_and_members(self):
        root = root_member()
        for one, other, expected in ((1, 2, -1), (Ratio(1, 2), Ratio(1, 2), 0), (2, Ratio(1, 2), 1), (root, 1, 1),
                                     (1, root, -1), (root, Ratio(3, 2), -1), (2, root, 1), (root, root, 0),
                                     (-root, root, -1), (root, root_member(SAME), 0)):
            self.assertEqual(order_numbers(one, other), expected)
        self.assertEqual(order_numbers(one=root, other=0), 1)

    def test_unlike_points(self):
        root, cube, lower, fourth = root_member(), root_member(CUBE), root_member(LOWER), root_member(FOURTH)
        ascending = [lower, cube, root, fourth]
        for at, one in enumerate(ascending):
            for step, other in enumerate(ascending):
                self.assertEqual(order_numbers(one, other), (at > step) - (at < step))
        self.assertEqual(order_numbers(-lower, root), 0)
        self.assertEqual(order_numbers(lower * lower * lower, root * -2), 0)
        # The root of 2 is in the field of the fourth point, too.
        inside = (fourth * fourth * fourth - fourth * 9) * Ratio(1, 2)
        self.assertEqual([order_numbers(inside, root), order_numbers(root, inside)], [0, 0])
        tiny = Ratio(1, 10 ** 60)
        self.assertEqual([order_numbers(inside + tiny, root), order_numbers(root, inside + tiny)], [1, -1])
        self.assertEqual([order_numbers(inside - tiny, root), order_numbers(-root, -inside + tiny)], [-1, -1])
        self.assertEqual(order_numbers(root.inverse(), lower.inverse() * -1), 0)
        self.assertEqual(order_numbers((lower + 5).inverse(), (5 - root).inverse()), 0)
        self.assertEqual(order_numbers(member(Point((X * X - 2) * (X - 9), 0, 2), Curve(ONE, X - 9)),
                                       (-lower - 9).inverse()), 0)

    def test_conjugates(self):
        points = isolate(Poly([-2, 0, 0, 0, 1]), None, None)
        even, odd = Curve(X * X * X * X * X * X - 6 * X * X), Curve(X * X * X - X)
        self.assertEqual(order_numbers(member(points[0], even), member(points[1], even)), 0)
        self.assertEqual(order_numbers(member(points[0], odd), member(points[1], odd)), -1)
        self.assertEqual(order_numbers(member(points[0], odd), -member(points[1], odd)), 0)
        # Conjugates that are so near to each other that they are told apart late.
        for scale in (10 ** 6, 10 ** 30):
            small = even * Ratio(1, scale)
            self.assertEqual(order_numbers(member(points[0], small), member(points[1], small)), 0)
            self.assertEqual(order_numbers(member(points[0], small), -member(points[1], small)), -1)
            self.assertEqual(order_numbers(member(points[0], small) + 7, member(points[1], small) + 7), 0)

    def test_wrong_arguments(self):
        for value in NO_RATIOS + (None, ROOT, root_strand()):
            self.bad(value, order_numbers, value, 1)
            self.bad(value, order_numbers, value, "y")
            self.bad(value, order_numbers, root_member(), value)
