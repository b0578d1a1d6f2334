"""[2], [73], [97]: parts that add up."""

import random
from fractions import Fraction
from itertools import product
from math import floor

from allinputs.ratios import Ratio
from allinputs.roundings import rounded_parts
from tests.helper import NO_INTEGERS, NO_RATIOS, Case, fraction, root_member


def by_hand(parts, places):
    """The parts as the document tells them, with Fractions."""
    unit = Fraction(1, 10 ** places)
    floors = [floor(part / unit) for part in parts]
    many = floor(sum(parts) / unit + Fraction(1, 2)) - sum(floors)
    far = sorted(range(len(parts)), key=lambda at: (floors[at] - parts[at] / unit, at))
    return [unit * (floors[at] + (at in far[:many])) for at in range(len(parts))]


class Roundings(Case):
    def check(self, ratios, places):
        told = rounded_parts(ratios, places)
        self.assertIs(type(told), list)
        for ratio in told:
            self.assertIsInstance(ratio, Ratio)
        parts = [Fraction(ratio) if isinstance(ratio, int) else fraction(ratio) for ratio in ratios]
        self.assertEqual([fraction(ratio) for ratio in told], by_hand(parts, places))
        return told

    def test_known_ones(self):
        third = Ratio(1, 3)
        self.assertEqual(self.check([third, third, third], 0), [Ratio(1), Ratio(0), Ratio(0)])
        self.assertEqual(self.check([third, third, third], 1), [Ratio(4, 10), Ratio(3, 10), Ratio(3, 10)])
        self.assertEqual(self.check([Ratio(1, 4), Ratio(1, 4)], 0), [Ratio(1), Ratio(0)])
        self.assertEqual(self.check([Ratio(-1, 4), Ratio(-1, 4)], 0), [Ratio(0), Ratio(0)])
        self.assertEqual(self.check([Ratio(-1, 2)], 0), [Ratio(0)])
        self.assertEqual(self.check([Ratio(1, 2)], 0), [Ratio(1)])
        self.assertEqual(self.check([Ratio(-3, 2)], 0), [Ratio(-1)])
        self.assertEqual(self.check([Ratio(7, 10), Ratio(-7, 10)], 0), [Ratio(1), Ratio(-1)])
        self.assertEqual(self.check([Ratio(1, 10), Ratio(9, 10), Ratio(5, 10)], 0), [Ratio(0), Ratio(1), Ratio(1)])
        self.assertEqual(self.check([5, Ratio(1, 2), -3], 0), [Ratio(5), Ratio(1), Ratio(-3)])
        self.assertEqual(rounded_parts(ratios=(Ratio(1, 8),), places=2), [Ratio(13, 100)])
        self.assertEqual(rounded_parts([], 3), [])
        self.assertEqual(rounded_parts((), 0), [])

    def test_random_ones(self):
        random.seed(61)
        for _ in range(300):
            many = random.randint(1, 8)
            ratios = [Ratio(random.randint(-30, 30), random.choice([1, 2, 3, 4, 7, 20])) for _ in range(many)]
            for places in (0, 1, 3):
                told = self.check(ratios, places)
                total = sum((fraction(ratio) for ratio in ratios), Fraction(0))
                rounded = Fraction(floor(total * 10 ** places + Fraction(1, 2)), 10 ** places)
                self.assertEqual(sum(fraction(ratio) for ratio in told), rounded)

    def test_no_list_is_nearer(self):
        random.seed(62)
        for _ in range(60):
            parts = [Fraction(random.randint(-20, 20), random.choice([2, 3, 4, 5, 7])) for _ in range(3)]
            told = [fraction(one) for one in rounded_parts([Ratio(*part.as_integer_ratio()) for part in parts], 0)]
            distance = sum(abs(one - part) for one, part in zip(told, parts))
            near = [range(floor(part) - 1, floor(part) + 3) for part in parts]
            for other in product(*near):
                if sum(other) == sum(told):
                    self.assertGreaterEqual(sum(abs(one - part) for one, part in zip(other, parts)), distance)

    def test_great_ones(self):
        ratios = [Ratio(10 ** 2999 + at, 3 ** 5 + at) for at in range(30)]
        self.check(ratios, 0)
        self.check(ratios, 1000)
        self.check([Ratio(1, 3)] * 500, 2)

    def test_nothing_changes(self):
        ratios = [Ratio(1, 3), 2, Ratio(1, 6)]
        rounded_parts(ratios, 0)
        self.assertEqual(ratios, [Ratio(1, 3), 2, Ratio(1, 6)])

    def test_wrong_arguments(self):
        for value in (None, 1, Ratio(1), "12", {}, True, {1}, range(3)):
            self.bad(value, rounded_parts, value, 0)
            self.bad(value, rounded_parts, value, -1)
        for value in NO_RATIOS + (None, root_member()):
            self.bad(value, rounded_parts, [Ratio(1), value, "later"], 0)
            self.bad(value, rounded_parts, (value,), "y")
        for value in NO_INTEGERS + (-1,):
            self.bad(value, rounded_parts, [], value)
            self.bad(value, rounded_parts, [Ratio(1)], value)
