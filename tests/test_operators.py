"""[2], [10], [27], [28], [106]: signs of operation."""

from allinputs.errors import NotTold, TooHigh, Turns
from allinputs.operators import OPERATORS, negated, operate
from allinputs.ratios import Ratio
from allinputs.values import Fault
from tests.calls import alike, thing
from tests.helper import UNIT, UP, WIDE, X, Case, root_member, root_strand

HALF = Ratio(1, 2)


class Signs(Case):
    def tells(self, told, sign, one, other):
        found = operate(sign, thing(one), thing(other))
        self.assertTrue(alike(found, thing(told)), (sign, one, other, found))

    def test_signs(self):
        self.assertEqual(OPERATORS, ("+", "-", "*", "/", "^", "&", "=", "<>", "<", "<=", ">", ">="))
        self.assertIs(type(OPERATORS), tuple)
        self.assertEqual(operate(sign="+", one=Ratio(1), other=Ratio(2)), Ratio(3))

    def test_arithmetic(self):
        for sign, one, other, told in (
                ("+", 1, 2, 3), ("+", "7", True, 8), ("+", None, None, 0), ("-", HALF, 2, Ratio(-3, 2)), ("*", "1/3", 6, 2),
                ("*", None, "x", "#VALUE"), ("/", "7", True, 7), ("/", 1, 3, Ratio(1, 3)), ("/", 1, 0, "#DIV"),
                ("/", 0, 0, "#DIV"), ("/", 1, None, "#DIV"), ("/", 1, False, "#DIV"), ("/", "x", 0, "#VALUE"),
                ("+", "x", "#NA", "#NA"), ("+", "#REF", "#NA", "#REF"), ("+", 1, "x", "#VALUE"), ("-", " 1 ", "2e1", -19)):
            self.tells(told, sign, one, other)

    def test_powers(self):
        for one, other, told in ((2, 10, 1024), (2, -2, Ratio(1, 4)), (0, 5, 0), (0, 0, "#NUM"), (0, -1, "#DIV"),
                                 (HALF, 3, Ratio(1, 8)), (-2, 3, -8), (5, 0, 1), (5, None, 1), (2, HALF, "#NUM"),
                                 (2, 64, 2 ** 64), (2, 65, "#NUM"), (2, -64, Ratio(1, 2 ** 64)), (2, -65, "#NUM"),
                                 (2, Ratio(129, 2), "#NUM"), (0, HALF, "#NUM"), (0, -65, "#NUM"), (1, 10 ** 30, "#NUM"),
                                 ("x", 65, "#VALUE"), (0, "0", "#NUM"), (2, Ratio(-129, 2), "#NUM")):
            self.tells(told, "^", one, other)

    def test_texts(self):
        for one, other, told in (("a", "b", "ab"), (Ratio(5, 2), None, "2.5"), (True, Ratio(1, 3), "TRUE1/3"),
                                 (None, None, ""), ("a", "#NA", "#NA"), ("x" * 999, "y", "x" * 999 + "y"),
                                 ("x" * 999, "yz", "#VALUE"), (Ratio(10 ** 1000), "", "#VALUE"),
                                 (Ratio(10 ** 1000), "#NA", "#NA")):
            self.tells(told, "&", one, other)
        self.fails(NotTold, {}, operate, "&", root_strand(), "x")
        self.fails(NotTold, {}, operate, "&", "x", root_member())
        self.tells("#NA", "&", root_strand(), "#NA")

    def test_comparisons(self):
        signs = ("=", "<>", "<", "<=", ">", ">=")
        for one, other, told in (
                (1, 2, "011100"), (2, 2, "100101"), (3, 2, "010011"), (9, "1", "011100"), ("a", "A", "100101"),
                ("ab", "AC", "011100"), ("z", True, "011100"), (False, True, "011100"), (None, 0, "100101"),
                (None, "", "100101"), (None, False, "100101"), (None, None, "100101"), (None, -1, "010011"),
                (HALF, "0.5", "011100")):
            for sign, expected in zip(signs, told):
                self.tells(expected == "1", sign, one, other)
        for sign in signs:
            self.tells("#NA", sign, 1, "#NA")
            self.tells("#REF", sign, "#REF", "#NA")

    def test_long_numbers(self):
        nines = Ratio(10 ** 3000 - 1)
        self.assertEqual(operate("-", nines, Ratio(0)), nines)
        self.assertEqual(operate("/", Ratio(1), nines), Ratio(1, 10 ** 3000 - 1))
        for sign, one, other in (("+", nines, Ratio(1)), ("*", nines, Ratio(2)), ("/", HALF, nines),
                                 ("^", Ratio(10 ** 1000), Ratio(3)), ("-", -nines, Ratio(1))):
            self.fails(TooHigh, {"most": 3000}, operate, sign, one, other)
        self.assertIs(operate("<", nines, nines), False)

    def test_strands_and_members(self):
        x, root = root_strand(), root_member()
        self.assertEqual(operate("+", x, True), x + 1)
        self.assertEqual(operate("/", Ratio(1), x), x.inverse())
        self.assertEqual(operate("^", x, Ratio(-2)), x.power(-2))
        self.assertEqual(operate("-", x, x), Ratio(0))
        self.assertEqual(operate("*", root, root), Ratio(2))
        self.assertEqual(operate("/", x, Ratio(0)), Fault("DIV"))
        self.assertIs(operate(">", x, None), True)
        self.assertIs(operate("=", root, Ratio(1)), False)
        self.assertIs(operate("<", x, "a"), True)
        self.assertEqual(operate("^", root, root), Fault("NUM"))
        self.assertEqual(operate("^", Ratio(2), root_strand(UNIT)), Fault("NUM"))
        self.fails(Turns, {"poly": X}, operate, "/", Ratio(1), root_strand(WIDE))
        self.fails(Turns, {"poly": X - 7}, operate, "=", root_strand(UP), Ratio(7))
        self.fails(TooHigh, {"most": 60}, operate, "^", x * x, Ratio(31))

    def test_negated(self):
        for value, told in ((1, -1), ("1/3", Ratio(-1, 3)), (True, -1), (None, 0), ("x", "#VALUE"), ("#NA", "#NA")):
            self.assertTrue(alike(negated(thing(value)), thing(told)))
        self.assertEqual(negated(value=root_strand()), -root_strand())
        self.assertEqual(negated(root_member()), -root_member())

    def test_wrong_arguments(self):
        for value in (1, [], "a\n", "x" * 1001, b"a"):
            self.bad(value, operate, "+", value, 1)
            self.bad(value, operate, "+", None, value)
            self.bad(value, negated, value)
        for sign in ("", "==", "!", None, 1, "<>=", ["+"], "minus"):
            self.bad(sign, operate, sign, 1, 2)
