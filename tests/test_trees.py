"""[2], [21], [25], [103]: formulas as trees."""

from allinputs.addresses import Address
from allinputs.areas import Area, read_area
from allinputs.parser import read_formula
from allinputs.polys import Poly
from allinputs.printer import formula_text
from allinputs.ratios import Ratio
from allinputs.trees import height, is_formula, moved, references, with_references
from allinputs.values import Fault
from tests.helper import NO_INTEGERS, Case, root_strand

ONE = ("number", Ratio(1))
A1 = ("cell", Address(1, 1))
REF = ("fault", "REF")

FORMULAS = [
    ONE, ("number", Ratio(0)), ("number", Ratio(1, 8)), ("number", Ratio(7, 10 ** 70)), ("text", ""), ("text", "a" * 1000),
    ("truth", True), ("truth", False), ("fault", "SPILL"), A1, ("spill", Address(2, 3, sheet="x", fixed_row=True)),
    ("area", read_area("A:C")), ("name", "rate.x_1"), ("name", "_"), ("call", "F", ()), ("call", "_A.B1", (ONE,)),
    ("call", "F", (("blank",), ("blank",))), ("call", "F", (ONE, ("blank",))), ("call", "TRUE", ()), ("call", "A1", ()),
    ("array", ((Ratio(-1, 2), "x", True, Fault("NA")),)), ("array", ((Ratio(1),), (Ratio(2),))), ("minus", ONE),
    ("plus", ("minus", ONE)), ("+", ONE, ONE), ("<>", ONE, A1), ("^", ("&", ONE, ONE), ("minus", A1)),
]
NO_FORMULAS = [
    None, 1, True, "=1", "number", [], (), ("blank",), ("number",), ["number", Ratio(1)], ("number", 1), ("number", -1),
    ("number", True), ("number", Ratio(-1)), ("number", Ratio(1, 3)), ("number", root_strand()), ("number", "1"),
    ("number", Ratio(1), Ratio(1)), ("text", "a" * 1001), ("text", "a\n"), ("text", None), ("text", 1), ("truth", 1),
    ("truth", "TRUE"), ("truth", None), ("fault", "ERR"), ("fault", "ref"), ("fault", Fault("REF")), ("fault", None),
    ("cell", "A1"), ("cell", (1, 1)), ("cell", read_area("A1")), ("area", Address(1, 1)), ("spill", read_area("A1")),
    ("area", "A1:B2"), ("name", "Rate"), ("name", "true"), ("name", "a1"), ("name", "r2c3"), ("name", ""), ("name", "1a"),
    ("name", "a b"), ("name", None), ("name", "a0"), ("call", "f", ()), ("call", "F", []), ("call", "F", [ONE]),
    ("call", "F", (1,)), ("call", "F", (("blank",),)), ("call", "F", ONE), ("call", "F"), ("call", "", ()),
    ("call", "1F", ()), ("call", "F", (None,)), ("call", "F", (("blank", 1), ONE)), ("call", None, ()),
    ("call", "F", (["blank"], ONE)), ("array", ()), ("array", ((),)), ("array", ((Ratio(1),), (Ratio(1), Ratio(2)))),
    ("array", [(Ratio(1),)]), ("array", ([Ratio(1)],)), ("array", ((1,),)), ("array", ((Ratio(1, 3),),)),
    ("array", ((None,),)), ("array", (("a\n",),)), ("array", ((root_strand(),),)), ("array", Ratio(1)), ("minus", 1),
    ("minus", ("blank",)), ("minus", ONE, ONE), ("minus",), ("+", ONE), ("+", ONE, ONE, ONE), ("+", ONE, 1), ("+", [], ONE),
    ("%", ONE, ONE), ("==", ONE, ONE), (1, ONE), (None, 1), ("rate", ONE), ("blank", ONE), (ONE, ONE), ("+", ONE, ("blank",)),
    (["+"], ONE, ONE), {"number": 1}, Poly([1]), b"=1", ("number", Ratio(1), None), range(2),
]


def nested(many):
    formula = ONE
    for _ in range(many):
        formula = ("minus", formula)
    return formula


class Formulas(Case):
    def test_what_is_a_formula(self):
        for formula in FORMULAS:
            self.assertIs(is_formula(formula), True, formula)
            self.assertEqual(read_formula(formula_text(formula)) == formula, True, formula)
        self.assertIs(is_formula(value=ONE), True)
        for value in NO_FORMULAS:
            self.assertIs(is_formula(value), False, value)
            self.assertIs(is_formula(("+", ONE, value)), False, value)
            self.assertIs(is_formula(("minus", value)), False, value)
            if value != ("blank",):
                self.assertIs(is_formula(("call", "F", (ONE, value))), False, value)

    def test_heights(self):
        for formula, told in ((ONE, 1), (("call", "F", ()), 1), (("call", "F", (("blank",), ("blank",))), 2),
                              (("minus", ONE), 2), (("+", ONE, ("minus", ONE)), 3), (("array", ((True,),)), 1),
                              (("call", "F", (ONE, ("+", ONE, ("plus", A1)))), 4), (nested(59), 60)):
            self.assertEqual(height(formula), told)
        self.assertEqual(height(formula=A1), 1)
        self.assertIs(is_formula(nested(59)), True)
        self.assertIs(is_formula(nested(60)), False)
        self.assertIs(is_formula(nested(5000)), False)
        deep = nested(58)
        self.assertIs(is_formula(("call", "F", (ONE, deep))), True)
        self.assertIs(is_formula(("call", "F", (ONE, ("plus", deep)))), False)
        self.assertIs(is_formula(("+", deep, ("call", "F", (ONE, ("blank",))))), True)
        self.assertIs(is_formula(("+", ONE, nested(59))), False)
        self.assertIs(is_formula(("+", nested(59), ONE)), False)
        left = right = deep
        for _ in range(2):
            left, right = ("+", left, ONE), ("*", ONE, right)
            self.assertEqual([is_formula(left), is_formula(right)], [left[1] == deep] * 2)
        empty = ("call", "F", (ONE, ("blank",)))
        for many, told in ((57, True), (58, True), (59, False)):
            formula = empty
            for _ in range(many):
                formula = ("plus", formula)
            self.assertIs(is_formula(formula), told)

    def test_wrong_arguments(self):
        for value in NO_FORMULAS + [nested(60)]:
            for call, more in ((height, ()), (references, ()), (with_references, (1,)), (moved, ("x", "y")),
                               (formula_text, ())):
                self.bad(value, call, value, *more)


class References(Case):
    def test_order(self):
        formula = read_formula("=A1+SUM(B:B,-x,,A1)*{1}&C3#^t!A1:B2=x")
        self.assertEqual(references(formula), [
            A1, ("area", read_area("B:B")), ("name", "x"), A1, ("spill", Address(3, 3)), ("area", read_area("t!A1:B2")),
            ("name", "x")])
        self.assertEqual(references(formula=ONE), [])
        self.assertIs(type(references(A1)), list)
        self.assertEqual(references(A1), [A1])

    def test_with_references(self):
        formula = read_formula("=A1+SUM(B:B,-x,,A1)")
        nodes = references(formula)
        self.assertEqual(with_references(formula, nodes), formula)
        fresh = [REF, ("name", "y"), ("spill", Address(1, 1)), ("fault", "NA")]
        self.assertEqual(formula_text(with_references(formula, fresh)), "=#REF+SUM(y,-A1#,,#NA)")
        self.assertEqual(formula_text(with_references(formula=formula, nodes=tuple(fresh))), "=#REF+SUM(y,-A1#,,#NA)")
        self.assertEqual(fresh, [REF, ("name", "y"), ("spill", Address(1, 1)), ("fault", "NA")])
        self.assertEqual(with_references(ONE, []), ONE)
        self.assertEqual(with_references(A1, [REF]), REF)
        for value in (None, "A1", 1, {}, A1[1]):
            self.bad(value, with_references, formula, value)
        for node in (None, ONE, ["cell", Address(1, 1)], ("cell", "A1"), ("minus", A1), ("name", "Y"), ("fault", "X"),
                     ("blank",), Address(1, 1)):
            self.bad(node, with_references, formula, [A1, node, 1])
        for nodes in ([], [A1] * 3, [A1] * 5, (A1,)):
            self.bad(nodes, with_references, formula, nodes)

    def test_moved(self):
        for text, rows, columns, told in (
                ("=B2", 1, 2, "=D3"), ("=$B2", 1, 2, "=$B3"), ("=B$2", 1, 2, "=D$2"), ("=$B$2", 9, 9, "=$B$2"),
                ("=t!B2#", -1, -1, "=t!A1#"), ("=B2", -2, 0, "=#REF"), ("=B2", 0, -2, "=#REF"), ("=B$2", -2, 0, "=B$2"),
                ("=B2#", -2, 0, "=#REF"), ("=A1", 1000000, 0, "=#REF"), ("=A1", 999999, 18277, "=ZZZ1000000"),
                ("=A1", 999999, 18278, "=#REF"), ("=A1", 10 ** 30, 0, "=#REF"), ("=A1:B2", 1, 1, "=B2:C3"),
                ("=A1:B2", -1, 0, "=#REF"), ("=A1:$B$2", 5, 5, "=$B$2:F6"), ("=A$3:B5", -3, 0, "=A2:B$3"),
                ("=A$1:A3", -2, 0, "=A$1:A1"), ("=A1:A$3", 2, 0, "=A$3:A3"), ("=A1:A$3", 4, 0, "=A$3:A5"),
                ("=B:C", 7, 1, "=C:D"), ("=$B:C", 7, 3, "=$B:F"), ("=$C:D", 0, -2, "=B:$C"), ("=B:C", 0, -2, "=#REF"),
                ("=B:C", -5, 0, "=B:C"), ("=2:3", 1, 7, "=3:4"), ("=$2:3", 4, -9, "=$2:7"), ("=2:3", -2, 0, "=#REF"),
                ("=999999:1000000", 1, 0, "=#REF"), ("=x", 5, 5, "=x"), ("=1+SUM(A1,-B2,x)&\"A1\"", 1, 1,
                                                                        "=1+SUM(B2,-C3,x)&\"A1\"")):
            self.assertEqual(formula_text(moved(read_formula(text), rows, columns)), told, text)
        self.assertEqual(moved(formula=A1, rows=1, columns=0), ("cell", Address(2, 1)))
        for value in NO_INTEGERS:
            self.bad(value, moved, A1, value, "x")
            self.bad(value, moved, A1, 1, value)


class Equality(Case):
    def test_corners_of_areas_within(self):
        self.assertEqual(read_formula("=B2:A1"), ("area", Area(Address(1, 1), Address(2, 2))))
