"""[2], [30], [105]: criteria and patterns."""

import random
import re

from allinputs.criteria import fits, meets
from allinputs.ratios import Ratio
from allinputs.values import Fault
from tests.helper import Case, root_member, root_strand

HALF = Ratio(1, 2)


class Patterns(Case):
    def test_each_mark(self):
        for text, pattern, told in (
                ("", "", True), ("a", "", False), ("", "*", True), ("abc", "*", True), ("abc", "a*", True),
                ("abc", "*c", True), ("abc", "a*c", True), ("ac", "a*c", True), ("abc", "a?c", True), ("ac", "a?c", False),
                ("abc", "???", True), ("abc", "??", False), ("abc", "????", False), ("abc", "b", False), ("ABC", "abc", True),
                ("abc", "A*C", True), ("a*b", "a~*b", True), ("axb", "a~*b", False), ("a?b", "a~?B", True),
                ("axb", "a~?b", False), ("a~b", "a~~b", True), ("a~b", "a~b", True), ("~", "~", True), ("~a", "~a", True),
                ("a~", "a~", True), ("~~", "~~", False), ("~~", "~~~", True), ("a.c", "a.c", True), ("abc", "a.c", False),
                ("aXbXc", "a*x*c", True), ("ab", "*b*b", False), ("abab", "*a?ab", True), ("xabab", "*ab", True),
                ("a[b", "a[b", True), ("~*", "~~*", True), ("~*", "~~~*", True), ("", "?", False), ("", "**", True),
                ("a" * 500 + "b", "a*" * 20 + "b", True), ("a" * 999, "*a" * 100 + "c", False)):
            self.assertIs(fits(text, pattern), told, (text[:9], pattern[:9]))
        self.assertIs(fits(text="a", pattern="?"), True)

    def test_against_regular_expressions(self):
        chance = random.Random(4)
        for _ in range(3000):
            text = "".join(chance.choice("abA") for _ in range(chance.randint(0, 7)))
            pattern = "".join(chance.choice("ab*?") for _ in range(chance.randint(0, 6)))
            told = "".join({"*": ".*", "?": "."}.get(sign, sign) for sign in pattern)
            self.assertIs(fits(text, pattern), re.fullmatch(told, text, re.I) is not None, (text, pattern))

    def test_wrong_arguments(self):
        for value in (None, 1, True, Ratio(1), "a\n", "x" * 1001, b"a", ["a"], Fault("NA")):
            self.bad(value, fits, value, 1)
            self.bad(value, fits, "a", value)


class Criteria(Case):
    def check(self, criterion, met, unmet):
        for value in met:
            self.assertIs(meets(value, criterion), True, (value, criterion))
        for value in unmet:
            self.assertIs(meets(value, criterion), False, (value, criterion))

    def test_equal(self):
        for criterion in (Ratio(5), "5", "=5", "=5.0", "= 5 ", "=10/2"):
            self.check(criterion, [Ratio(5)], ["5", "=5", Ratio(6), True, None, "", Fault("NA")])
        for criterion in (True, "true", "=TRUE"):
            self.check(criterion, [True], [False, "TRUE", Ratio(1), None, Fault("NA")])
        for criterion in ("anna", "=anna", "A*", "=a?n*"):
            self.check(criterion, ["Anna", "anna"], ["bob", "nab", Ratio(1), None, "", Fault("NA")])
        self.check(None, [Ratio(0)], [None, "", False, "0", Fault("NA")])
        self.check("=", [None], ["", "=", Ratio(0), False, Fault("NA")])
        self.check("", [None, ""], [" ", Ratio(0), False, Fault("NA")])
        self.check("==", ["="], [None, "", "=="])
        self.check("=<>", ["<>"], [None, ""])
        self.check("=~*", ["*"], ["a"])

    def test_unlike(self):
        self.check("<>5", [Ratio(6), "5", True, None, ""], [Ratio(5), Fault("NA")])
        self.check("<>a*", ["bob", Ratio(1), None, "", True], ["Anna", Fault("REF")])
        self.check("<>", ["", "x", Ratio(0), False], [None, Fault("NA")])
        self.check("<>true", [False, "TRUE", Ratio(1), None], [True, Fault("NA")])
        self.check("<>=", ["x", None, ""], ["="])

    def test_order(self):
        self.check("<5", [Ratio(4), Ratio(-1), Ratio(9, 2)], [Ratio(5), "4", None, True, "", Fault("NA")])
        self.check("<=5", [Ratio(5)], [Ratio(6)])
        self.check(">5", [Ratio(6)], [Ratio(5), "6", True])
        self.check(">=2.5", [Ratio(3), Ratio(5, 2)], [Ratio(2)])
        self.check(">b", ["c", "BA", "bb"], ["b", "B", "a", "", Ratio(9), True, None, Fault("NA")])
        self.check("<=B", ["b", "a", ""], ["c", "ba"])
        # The rest is compared as it is, without patterns.
        self.check(">=*", ["*", "a"], ["", " ", "!"])
        self.check(">", ["a"], ["", None, Ratio(1)])
        self.check("<=", [""], ["a", None, Ratio(0)])
        self.check("<TRUE", [False], [True, Ratio(0), "a", None])
        self.check(">=false", [True, False], [None, Ratio(1)])
        self.check("><", ["a", "="], ["<", ""])

    def test_numbers_of_other_kinds(self):
        self.check(">0", [root_member(), root_strand()], [-root_member(), -root_strand()])
        self.check(root_member(), [root_member()], [Ratio(1), "1"])

    def test_wrong_arguments(self):
        for value in (1, "a\n", "x" * 1001, [], b"a", 1.5):
            self.bad(value, meets, value, 1)
            self.bad(value, meets, None, value)
        for value in (Fault("NA"), Fault("DIV")):
            self.bad(value, meets, None, value)
        self.assertIs(meets(value="a", criterion="a"), True)
