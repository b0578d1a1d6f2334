"""[2], [8], [88]: spans."""

from allinputs.curves import Curve
from allinputs.points import Point
from allinputs.polys import Poly
from allinputs.ratios import Ratio
from allinputs.spans import Span, roots_in
from tests.helper import CUBE, NO_RATIOS, ROOT, UNIT, WIDE, X, Case, linear, root_member

LOWER = Point(X * X - 2, -2, 0)
NEAR = 10 ** 40
NEXT = Point(NEAR * X * X - 2 * NEAR - 1, 0, 2)


class Spans(Case):
    def test_ends(self):
        span = Span(low=1, high=Ratio(5, 2))
        self.assertEqual((span.low, span.high), (Ratio(1), Ratio(5, 2)))
        self.assertIsInstance(span.low, Ratio)
        self.assertEqual((WIDE.low, WIDE.high), (None, None))
        span = Span(LOWER, ROOT)
        self.assertIs(type(span.low), Point)
        self.assertEqual((span.low, span.high), (LOWER, ROOT))
        self.assertEqual((Span(None, ROOT).low, Span(ROOT, None).high), (None, None))

    def test_points_that_are_ratios(self):
        span = Span(linear(Ratio(1, 3)), Point((X - 2) * (X * X - 2), Ratio(3, 2), 5))
        self.assertIs(type(span.low), Ratio)
        self.assertEqual((span.low, span.high), (Ratio(1, 3), Ratio(2)))
        self.assertEqual(span, Span(Ratio(1, 3), 2))

    def test_wrong_ends(self):
        for value in NO_RATIOS + (root_member(), UNIT):
            self.bad(value, Span, value, 1)
            self.bad(value, Span, value, "y")
            self.bad(value, Span, 0, value)
        pairs = [(1, 1), (2, 1), (Ratio(1, 2), Ratio(1, 2)), (ROOT, ROOT), (ROOT, LOWER), (ROOT, 1), (2, ROOT),
                 (ROOT, Ratio(141, 100)), (Ratio(142, 100), ROOT), (ROOT, Point(X * X * X - 2 * X, 1, 2)),
                 (linear(Ratio(1)), 1), (1, linear(Ratio(1))), (NEXT, ROOT)]
        for low, high in pairs:
            self.bad(high, Span, low, high)

    def test_equality(self):
        self.assertTrue(Span(0, 1) == Span(Ratio(0), linear(Ratio(1))))
        self.assertTrue(Span(None, ROOT) == Span(None, Point(X * X * X - 2 * X, 1, 2)))
        self.assertTrue(WIDE == Span(None, None))
        for other in (Span(0, 2), Span(-1, 1), Span(None, 1), Span(0, None), Span(0, ROOT), Span(LOWER, 1), WIDE):
            self.assertFalse(UNIT == other)
        for other in (None, (0, 1), "x", Ratio(1)):
            self.assertFalse(UNIT == other)

    def test_has(self):
        for span, ratio, expected in (
                (UNIT, 0, False), (UNIT, 1, False), (UNIT, Ratio(1, 2), True), (UNIT, Ratio(-1, NEAR), False),
                (UNIT, Ratio(1, NEAR), True), (UNIT, 2, False), (WIDE, -5, True), (Span(None, 0), 0, False),
                (Span(None, 0), -9, True), (Span(0, None), 0, False), (Span(0, None), 9, True),
                (Span(LOWER, ROOT), Ratio(141, 100), True), (Span(LOWER, ROOT), Ratio(142, 100), False),
                (Span(LOWER, ROOT), Ratio(-142, 100), False), (Span(ROOT, None), Ratio(142, 100), True),
                (Span(ROOT, None), Ratio(141, 100), False)):
            self.assertIs(span.has(ratio), expected)
        self.assertIs(UNIT.has(ratio=Ratio(1, 3)), True)
        for value in NO_RATIOS + (None, ROOT):
            self.bad(value, UNIT.has, value)
            self.bad(value, WIDE.has, value)

    def test_inner(self):
        great = 10 ** 2999
        spans = [WIDE, UNIT, Span(None, 0), Span(None, -7), Span(5, None), Span(0, None), Span(None, Ratio(-7, 2)),
                 Span(Ratio(1, 3), Ratio(34, 100)), Span(-1, 1), Span(-3, -2), Span(LOWER, ROOT), Span(ROOT, None),
                 Span(None, LOWER), Span(ROOT, Ratio(1415, 1000)), Span(Ratio(141421, 100000), ROOT), Span(ROOT, NEXT),
                 Span(Ratio(1, great + 1), Ratio(1, great)), Span(0, Ratio(1, great)), Span(great, None),
                 Span(Ratio(great - 1, great), 1), Span(None, CUBE), Span(CUBE, ROOT),
                 Span(Ratio(1, 2) - Ratio(1, great), Ratio(1, 2))]
        for span in spans:
            told = span.inner()
            self.assertIsInstance(told, Ratio)
            self.assertTrue(span.has(told))

    def test_equal_spans_tell_the_same(self):
        others = [Point(X * X * X - 2 * X, 1, 2), Point((X * X - 2) * (3 * X - 1), Ratio(14, 10), Ratio(15, 10)),
                  Point((X * X - 2) * (X * X - 3), 1, Ratio(3, 2))]
        for other in others:
            for maker in (lambda end: Span(end, NEXT), lambda end: Span(end, None), lambda end: Span(None, end),
                          lambda end: Span(LOWER, end), lambda end: Span(end, Ratio(15, 10))):
                self.assertEqual(maker(ROOT).inner(), maker(other).inner())

    def test_roots_in(self):
        poly = (X * X - 2) * X * (X - 1) * (X - 1) * (2 * X + 1)
        told = [(WIDE, ["-1.4", "-0.5", "0.0", "1.0", "1.4"]), (UNIT, []), (Span(LOWER, ROOT), ["-0.5", "0.0", "1.0"]),
                (Span(ROOT, None), []), (Span(None, ROOT), ["-1.4", "-0.5", "0.0", "1.0"]),
                (Span(-1, NEXT), ["-0.5", "0.0", "1.0", "1.4"]), (Span(Ratio(-1, 2), 1), ["0.0"]),
                (Span(LOWER, Ratio(-1, 2)), []), (Span(CUBE, 2), ["1.4"]), (Span(Ratio(1, 2), CUBE), ["1.0"])]
        for span, texts in told:
            roots = roots_in(poly, span)
            self.assertIs(type(roots), tuple)
            self.assertEqual([root.digits(1) for root in roots], texts)
            for root in roots:
                self.assertIsInstance(root, Point)
                self.assertEqual(root.sign_of(poly), 0)
        self.assertEqual(roots_in(poly=X * X - 2, span=Span(0, None)), (ROOT,))
        self.assertEqual(roots_in(X * X + 1, WIDE), ())
        self.assertEqual(roots_in(Poly([3]), WIDE), ())
        # The end itself, told by another poly, is no root in the open span; what is right beside it is one.
        self.assertEqual(roots_in((X * X - 2) * (X - 9), Span(Point(X * X * X - 2 * X, 1, 2), 8)), ())
        self.assertEqual(roots_in((X * X - 2) * (NEAR * X * X - 2 * NEAR - 1), Span(ROOT, 8)), (NEXT,))
        self.assertEqual(roots_in((X * X - 2) * (NEAR * X * X - 2 * NEAR - 1), Span(0, NEXT)), (ROOT,))

    def test_wrong_arguments_of_roots_in(self):
        for value in (Poly([]), None, 1, "x", [1], Ratio(1), True, Curve(X)):
            self.bad(value, roots_in, value, UNIT)
            self.bad(value, roots_in, value, "y")
        for value in (None, 1, "x", (0, 1), X, ROOT):
            self.bad(value, roots_in, X, value)
