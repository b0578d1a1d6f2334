"""[2], [10], [13], [14], [96]: the order of values."""

from itertools import product

from allinputs.curves import Curve
from allinputs.errors import Turns
from allinputs.ordering import order, small_letters, sort_order
from allinputs.points import Point
from allinputs.ratios import Ratio
from allinputs.strands import strand
from allinputs.values import FAULT_KINDS, Fault
from tests.helper import CUBE, ROOT, UNIT, UP, WIDE, X, Case, root_member, root_strand
from tests.test_values import NO_VALUES

# Groups of equal values, ascending.
ASCENDING = [[Ratio(-3)], [Ratio(-1, 2)], [Ratio(0)], [Ratio(1, 3), Ratio(2, 6)], [Ratio(10)], [Ratio(10 ** 3000)],
             [""], [" "], ["!"], ["1"], ["10"], ["9"], ["_"], ["a", "A"], ["ab", "AB", "aB"], ["abc"], ["aC", "Ac"],
             ["b", "B"], ["true", "TRUE"], ["z", "Z"], ["{"], ["~"], [False], [True]]
FAULTS = [Fault(kind) for kind in FAULT_KINDS]


class Order(Case):
    def test_each_pair(self):
        for (at, group), (step, peers) in product(enumerate(ASCENDING), repeat=2):
            for one, other in product(group, peers):
                expected = (at > step) - (at < step)
                self.assertEqual(order(one, other), expected, (one, other))
                self.assertEqual(sort_order(one, other), expected, (one, other))
        self.assertEqual(order(one=Ratio(1), other="a"), -1)

    def test_signs_between_capitals_and_small_letters(self):
        # As small letters, capitals come behind "_", "^" and "[".
        for sign in "[\\]^_`":
            self.assertEqual(order("A", sign), 1)
            self.assertEqual(order("a", sign), 1)
        self.assertEqual(order("Z", "{"), -1)
        self.assertEqual(order("Z", "@"), 1)

    def test_blanks_beside_each_kind(self):
        told = [(Ratio(-1), 1), (Ratio(0), 0), (Ratio(1, 9), -1), ("", 0), (" ", -1), ("a", -1), (False, 0), (True, -1),
                (None, 0)]
        for value, expected in told:
            self.assertEqual(order(None, value), expected)
            self.assertEqual(order(value, None), -expected)

    def test_faults_are_not_compared(self):
        for fault in FAULTS:
            for value in (Ratio(1), "a", True, None, Fault("NA"), 1):
                self.bad(fault, order, fault, value)
            for value in (Ratio(1), "a", True, None):
                self.bad(fault, order, value, fault)

    def test_sorting(self):
        groups = ASCENDING + [FAULTS, [None]]
        for (at, group), (step, peers) in product(enumerate(groups), repeat=2):
            for one, other in product(group, peers):
                self.assertEqual(sort_order(one, other), (at > step) - (at < step), (one, other))
        self.assertEqual(sort_order(one=None, other=Ratio(0)), 1)

    def test_strands(self):
        one = root_strand(UNIT)
        for call in (order, sort_order):
            self.assertEqual([call(one, Ratio(0)), call(one, Ratio(1)), call(Ratio(2), one), call(one, one)],
                             [1, -1, 1, 0])
            self.assertEqual([call(one, strand(Curve(X * X), UNIT)), call(one, one + 1)], [1, -1])
            self.assertEqual([call(one, "a"), call(True, one), call("", one)], [-1, 1, 1])
            self.fails(Turns, {"poly": 2 * X - 1}, call, one, Ratio(1, 2))
            self.fails(Turns, {"poly": 3 * X - 1}, call, Ratio(1, 3), one)
            self.fails(Turns, {"poly": X - 1}, call, root_strand(UP), strand(Curve(X, X * 0 + 2), UP) + Ratio(1, 2))
        self.assertEqual([order(one, None), order(None, one)], [1, -1])
        self.fails(Turns, {"poly": X}, order, None, root_strand(WIDE))
        self.assertEqual([sort_order(root_strand(WIDE), None), sort_order(None, root_strand(WIDE))], [-1, 1])
        self.assertEqual(sort_order(root_strand(WIDE), Fault("NA")), -1)

    def test_members(self):
        root = root_member()
        for call in (order, sort_order):
            self.assertEqual([call(root, Ratio(1)), call(Ratio(3, 2), root), call(root, -root), call(root, root)],
                             [1, 1, 1, 0])
            self.assertEqual(call(root, root_member(Point(X * X * X - 2 * X, 1, 2))), 0)
            self.assertEqual([call(root, ""), call(False, root)], [-1, 1])
        self.assertEqual([order(None, root), order(-root, None)], [-1, -1])

    def test_wrong_arguments(self):
        for value in NO_VALUES:
            for call in (order, sort_order):
                self.bad(value, call, value, Ratio(1))
                self.bad(value, call, value, 5)
                self.bad(value, call, None, value)
        for one, other in ((root_strand(UNIT), root_strand(UP)), (root_strand(), root_member()),
                           (root_member(), root_strand()), (root_member(), root_member(CUBE))):
            self.bad(other, order, one, other)
            self.bad(other, sort_order, one, other)


class SmallLetters(Case):
    def test_letters(self):
        self.assertEqual(small_letters("aBcXYZ[@`{ 09~"), "abcxyz[@`{ 09~")
        self.assertEqual(small_letters(""), "")
        self.assertEqual(small_letters(text="A" * 2000), "a" * 2000)
        self.assertEqual(small_letters("\u00c9\u0130\u212aK\n"), "\u00c9\u0130\u212ak\n")

    def test_wrong_arguments(self):
        for value in (None, 1, True, ["A"], b"A", Ratio(1), ROOT):
            self.bad(value, small_letters, value)
