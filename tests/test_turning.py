"""[2], [10], [11], [95]: values turned into others."""

from allinputs.curves import Curve
from allinputs.errors import NotTold, TooHigh, Turns
from allinputs.ratios import Ratio
from allinputs.strands import strand
from allinputs.turning import to_number, to_text, to_truth
from allinputs.values import FAULT_KINDS, Fault
from tests.helper import UNIT, WIDE, X, Case, root_member, root_strand
from tests.test_values import NO_VALUES

VALUE = Fault("VALUE")


class Turning(Case):
    def test_to_number(self):
        for number in (Ratio(0), Ratio(-7, 3), root_strand(WIDE), root_member(), Ratio(10 ** 4000)):
            self.assertIs(to_number(number), number)
        told = [(True, Ratio(1)), (False, Ratio(0)), (None, Ratio(0)), ("12", Ratio(12)), (" -1/2 ", Ratio(-1, 2)),
                ("1e2", Ratio(100)), ("", VALUE), (" ", VALUE), ("x", VALUE), ("1 2", VALUE), ("TRUE", VALUE),
                ("1/0", VALUE), ("1,000", VALUE), ("9" * 1000, Ratio(10 ** 1000 - 1))]
        for value, expected in told:
            self.assertEqual(to_number(value), expected)
        self.assertEqual(to_number(value="5"), Ratio(5))

    def test_to_text(self):
        told = [("aB c", "aB c"), ("", ""), (True, "TRUE"), (False, "FALSE"), (None, ""), (Ratio(5), "5"),
                (Ratio(-1, 4), "-0.25"), (Ratio(1, 3), "1/3")]
        for value, expected in told:
            self.assertEqual(to_text(value), expected)
        self.assertEqual(to_text(value=Ratio(0)), "0")

    def test_long_texts(self):
        self.assertEqual(to_text("a" * 1000), "a" * 1000)
        self.assertEqual(to_text(Ratio(10 ** 1000 - 1)), "9" * 1000)
        self.assertEqual(to_text(Ratio(10 ** 1000)), VALUE)
        self.assertEqual(to_text(Ratio(1 - 10 ** 999)), "-" + "9" * 999)
        self.assertEqual(to_text(Ratio(1 - 10 ** 1000)), VALUE)
        self.assertEqual(to_text(Ratio(1, 10 ** 998 - 1)), "1/" + "9" * 998)
        self.assertEqual(to_text(Ratio(1, 10 ** 999 - 1)), VALUE)
        long = 10 ** 3000
        self.assertEqual(to_text(Ratio(long - 1)), VALUE)
        self.assertEqual(to_text(Ratio(1, long - 1)), VALUE)
        for ratio in (Ratio(long), Ratio(-long), Ratio(1, long)):
            self.fails(TooHigh, {"most": 3000}, to_text, ratio)

    def test_to_truth(self):
        told = [(True, True), (False, False), (None, False), (Ratio(0), False), (Ratio(-1, 9), True), (Ratio(2), True),
                ("TRUE", True), ("false", False), ("tRuE", True), ("FaLsE", False), ("", VALUE), ("1", VALUE),
                (" TRUE", VALUE), ("TRUE ", VALUE), ("yes", VALUE), ("0", VALUE)]
        for value, expected in told:
            result = to_truth(value)
            self.assertEqual(result, expected)
            self.assertIs(type(result), type(expected))
        self.assertIs(to_truth(value=True), True)

    def test_faults_stay(self):
        for kind in FAULT_KINDS:
            for call in (to_number, to_text, to_truth):
                self.assertEqual(call(Fault(kind)), Fault(kind))

    def test_strands_and_members(self):
        self.fails(NotTold, {}, to_text, root_strand())
        self.fails(NotTold, {}, to_text, root_member())
        self.assertIs(to_truth(root_member()), True)
        self.assertIs(to_truth(root_strand(UNIT)), True)
        self.assertIs(to_truth(root_strand(UNIT) - 1), True)
        self.fails(Turns, {"poly": X}, to_truth, root_strand(WIDE))
        self.fails(Turns, {"poly": X - 1}, to_truth, strand(Curve((X - 1) * (X - 1)), WIDE))

    def test_wrong_arguments(self):
        for value in NO_VALUES:
            for call in (to_number, to_text, to_truth):
                self.bad(value, call, value)
