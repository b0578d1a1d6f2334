"""[2], [9], [14], [92]: values."""

from allinputs.curves import Curve
from allinputs.errors import Turns
from allinputs.grids import Grid
from allinputs.points import Point
from allinputs.ratios import Ratio
from allinputs.strands import strand
from allinputs.values import FAULT_KINDS, Fault, is_value, kind_of, same
from tests.helper import CUBE, ROOT, UNIT, UP, WIDE, X, Case, root_member, root_strand

KINDS = ("DIV", "VALUE", "REF", "NAME", "NUM", "NA", "SPILL", "RING")
ALL_SIGNS = "".join(chr(code) for code in range(32, 127))
VALUES = [(Ratio(1, 2), "number"), (Ratio(10 ** 5000), "number"), (root_strand(), "number"), (root_member(), "number"),
          ("", "text"), ("x", "text"), ("1", "text"), ("TRUE", "text"), ("a" * 1000, "text"), (ALL_SIGNS, "text"),
          (True, "truth"), (False, "truth"), (None, "blank")] + [(Fault(kind), "fault") for kind in KINDS]
NO_VALUES = [0, 1, -7, 10 ** 40, "a" * 1001, "a\n", "\t", "\x7f", "\x1f", "\u00e9", "\u00a0", [], [1], (), ("a",), {}, {1},
             b"a", object(), Curve(X), X, ROOT, UP, Grid([[True]]), Fault, ValueError("x"), range(3)]


class Faults(Case):
    def test_kinds(self):
        self.assertEqual(FAULT_KINDS, KINDS)
        self.assertIs(type(FAULT_KINDS), tuple)

    def test_faults(self):
        for kind in KINDS:
            fault = Fault(kind)
            self.assertEqual((fault.kind, str(fault)), (kind, "#" + kind))
            self.assertEqual(Fault(kind=kind), fault)
            for other in KINDS:
                self.assertIs(fault == Fault(other), kind == other)
            for other in (kind, "#" + kind, None, Ratio(1), 0):
                self.assertFalse(fault == other)
        for value in ("div", "#DIV", "DIV ", "", "ERR", None, 1, True, ["DIV"], ("DIV",), Fault("DIV"), {}, 1.5):
            self.bad(value, Fault, value)


class Values(Case):
    def test_each_kind(self):
        for value, kind in VALUES:
            self.assertIs(is_value(value), True)
            self.assertEqual(kind_of(value), kind)
        self.assertIs(is_value(thing=None), True)
        self.assertEqual(kind_of(value=None), "blank")

    def test_things_that_are_none(self):
        for thing in NO_VALUES:
            self.assertIs(is_value(thing), False)
            self.bad(thing, kind_of, thing)
            self.bad(thing, same, thing, None)
            self.bad(thing, same, thing, 1)
            self.bad(thing, same, None, thing)
            self.bad(thing, same, "a", thing)

    def test_same(self):
        for at, (one, _) in enumerate(VALUES):
            for step, (other, _) in enumerate(VALUES):
                if {at, step} != {0, 2} and {at, step} != {1, 2} and {at, step} != {2, 3}:
                    self.assertIs(same(one, other), at == step, (one, other))
        self.assertIs(same(one="a", other="A"), False)
        self.assertIs(same("a", "a "), False)
        self.assertIs(same(Ratio(1), True), False)
        self.assertIs(same(Ratio(0), None), False)
        self.assertIs(same(Ratio(0), False), False)
        self.assertIs(same("", None), False)
        self.assertIs(same(False, None), False)
        self.assertIs(same(Ratio(1), "1"), False)
        self.assertIs(same(Ratio(2, 4), Ratio(1, 2)), True)
        self.assertIs(same("abc", "".join(["a", "bc"])), True)

    def test_same_strands(self):
        one, peer = root_strand(UNIT), strand(Curve(X * X), UNIT)
        self.assertIs(same(one, root_strand(UNIT)), True)
        self.assertIs(same(one, one + 1), False)
        self.assertIs(same(one, peer), False)
        self.assertIs(same(one, Ratio(2)), False)
        self.assertIs(same(Ratio(-1), one), False)
        self.fails(Turns, {"poly": 2 * X - 1}, same, one, Ratio(1, 2))
        self.fails(Turns, {"poly": 2 * X - 1}, same, Ratio(1, 2), one)
        self.fails(Turns, {"poly": X}, same, root_strand(WIDE), -root_strand(WIDE))
        # Of values of unlike kinds nothing is asked.
        for other in ("x", True, None, Fault("NA")):
            self.assertIs(same(root_strand(WIDE), other), False)

    def test_same_members(self):
        root = root_member()
        self.assertIs(same(root, root_member(Point(X * X * X - 2 * X, 1, 2))), True)
        self.assertIs(same(root * root * root, root + root), True)
        self.assertIs(same(root, root + 1), False)
        self.assertIs(same(root, Ratio(7, 5)), False)
        self.assertIs(same(Ratio(7, 5), root), False)

    def test_numbers_that_do_not_go_together(self):
        for one, other in ((root_strand(UNIT), root_strand(UP)), (root_strand(), root_member()),
                           (root_member(), root_strand()), (root_member(), root_member(CUBE))):
            self.bad(other, same, one, other)
