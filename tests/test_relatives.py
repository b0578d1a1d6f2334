"""[24], [102], [104]: the relative notation."""

import random

from allinputs.addresses import Address
from allinputs.areas import read_area
from allinputs.errors import NotAFormula, TooMany
from allinputs.parser import read_formula, read_relative_formula
from allinputs.printer import formula_relative
from allinputs.ratios import Ratio
from allinputs.trees import moved
from tests.helper import Case

BASE = Address(4, 3)
END = Address(1000000, 18278)
REF = ("fault", "REF")


class Relative(Case):
    def test_each_form(self):
        for text, told in (
                ("RC", "C4"), ("R[-1]C", "C3"), ("R[1]C[2]", "E5"), ("RC[-2]", "A4"), ("R2C3", "$C$2"), ("R2C", "C$2"),
                ("RC3", "$C4"), ("R[-3]C18278", "$ZZZ1"), ("R1000000C1", "$A$1000000"), ("tax!RC", "tax!C4"),
                ("RC#", "C4#"), ("R[1]C[1]#", "D5#"), ("R2C3#", "$C$2#"), ("RC:R[1]C[1]", "C4:D5"),
                ("R1C1:RC", "$A$1:C4"), ("C:C5", "C:$E"), ("C[-1]:C", "B:C"), ("R:R", "4:4"), ("R[-1]:R9", "3:$9"),
                ("C2:C2", "$B:$B"), ("R:R[1]", "4:5"), ("R1:R", "$1:4"), ("tax!R:R", "tax!4:4"), ("RC:RC", "C4:C4"),
                ("t!R[996]C", "t!C1000"), ("R[999996]C[18275]", "ZZZ1000000")):
            formula = read_formula("=" + told)
            self.assertEqual(read_relative_formula("=" + text, BASE), formula, text)
            self.assertEqual(formula_relative(formula, BASE), "=" + text)
            self.assertEqual(read_relative_formula(text="=" + text.lower(), base=BASE), formula, text)
        self.assertEqual(formula_relative(formula=("number", Ratio(1, 2)), base=BASE), "=0.5")
        fixed = Address(4, 3, fixed_row=True, fixed_column=True, sheet="tax")
        self.assertEqual(formula_relative(read_formula("=C3"), fixed), "=R[-1]C")

    def test_the_rest_is_as_before(self):
        for text in ("=rate+1", "=F(2,{1,-2;TRUE,#NA})", "=-1^2&\"RC\"", "=TRUE", "=R(1)", "=A1(1)", "=RC9(1)", "=#NA"):
            self.assertEqual(read_relative_formula(text, BASE), read_formula(text))
        self.assertEqual(read_relative_formula("=A1!RC", BASE), ("cell", Address(4, 3, sheet="A1")))
        self.assertEqual(read_relative_formula("=R2C3!RC", BASE), ("cell", Address(4, 3, sheet="R2C3")))
        self.fails(TooMany, {"most": 60}, read_relative_formula, "=" + "(" * 61, BASE)
        self.fails(TooMany, {"most": 60}, read_relative_formula, "=" + "RC+" * 60 + "RC", BASE)

    def test_off_the_grid(self):
        for text in ("R[-4]C", "RC[-3]", "R[-4]C#", "R[-4]C:RC", "RC:RC[-3]", "tax!R[-4]C", "R[-4]:R", "C[-3]:C",
                     "R[999997]C", "RC[18276]", "RC[999999]"):
            self.assertEqual(read_relative_formula("=" + text, BASE), REF, text)
        self.assertEqual(read_relative_formula("=R[1]C", END), REF)
        self.assertEqual(read_relative_formula("=RC[1]:RC", END), REF)
        self.assertEqual(read_relative_formula("=R[-999999]C[-18277]", END), ("cell", Address(1, 1)))
        self.assertEqual(read_relative_formula("=-R[-4]C+RC", BASE), (
            "+", ("minus", REF), ("cell", Address(4, 3))))

    def test_wrong_places(self):
        for text, at in (("=A1", 3), ("=R", 2), ("=C", 2), ("=R2", 3), ("=C3+1", 3), ("=R0C1", 5), ("=RC0", 4),
                         ("=R01C1", 6), ("=R1000001C1", 11), ("=RC18279", 8), ("=R[", 3), ("=R[0]C", 3), ("=R[-0]C", 4),
                         ("=R[01]C", 3), ("=R[1", 4), ("=R[1]", 5), ("=R[1]+1", 5), ("=R[1]C0", 6), ("=R[1]Cx", 6),
                         ("=R[1]C18279", 10), ("=R[1000000]C", 9), ("=R[-1000000]C", 10), ("=R[+1]C", 3), ("=R[1]C[", 7),
                         ("=R[1]C[1]x", 9), ("=R[ 1]C", 3), ("=R[]C", 3), ("=RC[-]", 5), ("=R[1]C[]", 7),
                         ("=R2[1]C", 3), ("=R0C[1]", 4), ("=RC:R", 5), ("=RC:C", 4),
                         ("=R:RC", 4), ("=R:C", 3), ("=C:R", 3), ("=RC:R0C", 5), ("=$A$1", 1), ("=A$1", 2), ("=2:5", 2),
                         ("=A:B", 2), ("=t!A1", 3), ("=t!R", 4), ("=t!R2C3x", 7), ("=t!RC(", 5), ("=R[1](1)", 5),
                         ("=RC##", 4), ("=C[1]:C[1", 9), ("=A1#", 3), ("=A1:B2", 3), ("=R:R#", 4), ("=R[1].5", 5)):
            self.fails(NotAFormula, {"at": at}, read_relative_formula, text, BASE)

    def test_moved_is_read_from_another_base(self):
        chance = random.Random(3)
        formula = read_formula("=$A1+SUM(B$2:D5,2:$9,$B:C)*A1#-t!$C$3^E5:$A$1&F:F")
        for _ in range(100):
            rows, columns = chance.randint(-6, 6), chance.randint(-4, 6)
            if 1 <= 5 + rows and 1 <= 5 + columns:
                text = formula_relative(formula, Address(5, 5))
                self.assertEqual(read_relative_formula(text, Address(5 + rows, 5 + columns)),
                                 moved(formula, rows, columns))

    def test_corners_that_turn(self):
        formula = read_relative_formula("=R9C:RC3", Address(2, 1))
        self.assertEqual(formula, ("area", read_area("A2:$C$9")))
        self.assertEqual(formula_relative(formula, Address(2, 1)), "=RC:R9C3")
        self.assertEqual(read_relative_formula("=R9C:RC3", Address(12, 1)), ("area", read_area("A$9:$C12")))

    def test_wrong_arguments(self):
        for value in (None, 1, True, ["=RC"], b"=RC", "=" + "1" * 2000):
            self.bad(value, read_relative_formula, value, BASE)
            self.bad(value, read_relative_formula, value, None)
        for value in (None, "A1", (1, 1), 1, read_area("A1")):
            self.bad(value, read_relative_formula, "=RC", value)
            self.bad(value, read_relative_formula, "(" * 61, value)
            self.bad(value, formula_relative, ("truth", True), value)
        for value in (None, "=1", ("number", 1), ["truth", True], ("blank",)):
            self.bad(value, formula_relative, value, BASE)
            self.bad(value, formula_relative, value, 1)
