"""[2], [23], [104]: formulas written as texts."""

import random

from allinputs.addresses import Address
from allinputs.areas import Area, read_area
from allinputs.parser import read_formula
from allinputs.printer import formula_text
from allinputs.ratios import Ratio
from allinputs.values import Fault
from tests.helper import Case

SIGNS = ("=", "<>", "<", ">", "<=", ">=", "&", "+", "-", "*", "/", "^")
LEVELS = {"=": 1, "<>": 1, "<": 1, ">": 1, "<=": 1, ">=": 1, "&": 2, "+": 3, "-": 3, "*": 4, "/": 4, "^": 5}
X, Y, Z = [("name", name) for name in ("x", "y", "z")]


def any_formula(chance, left):
    if left == 0 or chance.random() < 0.2:
        return chance.choice([
            X, ("number", Ratio(chance.randint(0, 999), 10 ** chance.randint(0, 4))), ("text", chance.choice(["", '"', "a"])),
            ("truth", True), ("fault", "NA"), ("cell", Address(2, 3, fixed_row=True)), ("area", read_area("A:$B")),
            ("spill", Address(1, 1, sheet="s")), ("array", ((Ratio(-1, 4), '"'), (False, Fault("REF")))),
            ("call", "F", ())])
    sort = chance.random()
    if sort < 0.2:
        return (chance.choice(["minus", "plus"]), any_formula(chance, left - 1))
    if sort < 0.35:
        parts = tuple(any_formula(chance, left - 1) for _ in range(chance.randint(1, 3)))
        return ("call", "SUM", parts + (("blank",),) if chance.random() < 0.3 else parts)
    return (chance.choice(SIGNS), any_formula(chance, left - 1), any_formula(chance, left - 1))


class Printer(Case):
    def test_each_pair_of_operators(self):
        for one in SIGNS:
            for other in SIGNS:
                # Brackets stand round a part only where it would be read otherwise without them.
                left = f"=x{one}y{other}z" if LEVELS[one] >= LEVELS[other] else f"=(x{one}y){other}z"
                self.assertEqual(formula_text((other, (one, X, Y), Z)), left)
                right = f"=x{one}y{other}z" if LEVELS[other] > LEVELS[one] else f"=x{one}(y{other}z)"
                self.assertEqual(formula_text((one, X, (other, Y, Z))), right)
            self.assertEqual(formula_text((one, ("minus", X), ("plus", Y))), f"=-x{one}+y")
            self.assertEqual(formula_text(("minus", (one, X, Y))), f"=-(x{one}y)")
            self.assertEqual(formula_text(("call", "F", ((one, X, Y),))), f"=F(x{one}y)")
        self.assertEqual(formula_text(("minus", ("plus", ("minus", X)))), "=-+-x")

    def test_each_node(self):
        for formula, told in (
                (("number", Ratio(1, 2)), "0.5"), (("number", Ratio(3)), "3"), (("number", Ratio(0)), "0"),
                (("number", Ratio(12345, 1000)), "12.345"), (("number", Ratio(1, 2 ** 70)), None),
                (("number", Ratio(1, 10 ** 61)), "0." + "0" * 60 + "1"), (("number", Ratio(7 * 10 ** 50)), "7" + "0" * 50),
                (("text", 'a"b'), '"a""b"'), (("text", ""), '""'), (("truth", True), "TRUE"), (("truth", False), "FALSE"),
                (("fault", "NAME"), "#NAME"), (("cell", Address(7, 2, fixed_column=True, sheet="tAx")), "tAx!$B7"),
                (("spill", Address(7, 2, fixed_row=True)), "B$7#"),
                (("area", Area(Address(1, 1), Address(1, 1))), "A1:A1"), (("area", read_area("t!$B:c")), "t!$B:C"),
                (("area", read_area("5:$2")), "$2:5"), (("area", read_area("B2:A1")), "A1:B2"), (("name", "rate"), "rate"),
                (("call", "SUM", ()), "SUM()"), (("call", "F", (("blank",), ("blank",))), "F(,)"),
                (("call", "F", (X, ("blank",), Y)), "F(x,,y)"),
                (("array", ((Ratio(1), Ratio(-2)), (True, Fault("NA")))), "{1,-2;TRUE,#NA}"),
                (("array", (('"', Ratio(-1, 4)),)), '{"""",-0.25}')):
            text = formula_text(formula)
            if told is not None:
                self.assertEqual(text, "=" + told)
            self.assertEqual(read_formula(text), formula)
        self.assertEqual(formula_text(formula=X), "=x")
        self.assertEqual(formula_text(("number", Ratio(1, 2 ** 70)))[-5:], str(5 ** 70)[-5:])

    def test_capitals(self):
        self.assertEqual(formula_text(read_formula("=sum(b$7,true,#na,RATE,tAx!a:b)")), "=SUM(B$7,TRUE,#NA,rate,tAx!A:B)")

    def test_what_is_written_is_read_as_the_same(self):
        chance = random.Random(8)
        for _ in range(400):
            formula = any_formula(chance, 5)
            text = formula_text(formula)
            self.assertNotIn(" ", text)
            if len(text) <= 2000:
                self.assertEqual(read_formula(text), formula, text)

    def test_no_bracket_is_too_many(self):
        chance = random.Random(9)
        for _ in range(200):
            formula = any_formula(chance, 4)
            text = formula_text(formula)
            for at, sign in enumerate(text):
                if sign == "(" and text[at - 1] not in "MF":
                    end = at + 1
                    many = 1
                    is_quoted = False
                    while many:
                        is_quoted = is_quoted != (text[end] == '"')
                        many += 0 if is_quoted else (text[end] == "(") - (text[end] == ")")
                        end += 1
                    without = text[:at] + text[at + 1:end - 1] + text[end:]
                    self.assertNotEqual(read_formula(without), formula, text)
