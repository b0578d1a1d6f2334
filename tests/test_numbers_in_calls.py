"""[10], [26], [109]: functions and operators with Strands and Members."""

import random

from allinputs.curves import Curve
from allinputs.errors import NotTold, TooHigh, Turns
from allinputs.functions import call
from allinputs.grids import Grid
from allinputs.members import Member, member
from allinputs.operators import OPERATORS, operate
from allinputs.points import isolate
from allinputs.ratios import Ratio
from allinputs.signatures import function_names, place_sort, takes
from allinputs.spans import Span, roots_in
from allinputs.strands import Strand, strand
from allinputs.values import Fault, same
from tests.calls import Calls
from tests.helper import ROOT, UNIT, UP, WIDE, X, Case, root_member, root_strand

SPANS = [UNIT, Span(Ratio(1, 3), Ratio(1, 2)), Span(2, 3), Span(-1, 0), Span(Ratio(-7, 2), Ratio(-10, 3))]
CURVES = [Curve(X), Curve(X + 1), Curve(X * 2), Curve(X * X), Curve(X * X * 0 + 1, X * X + 20), Curve(-X), Curve(X * 100)]
PLAIN = [True, False, None, "abc", "5", "a*", ">2", "=1", "", Fault("NA"), Fault("DIV"), "0.0", Ratio(0), Ratio(1), Ratio(2),
         Ratio(-1, 2), Ratio(5), Ratio(2024)]


def put_in(told, number):
    """A result, or an argument, at an input."""
    if isinstance(told, Grid):
        return Grid([[put_in(value, number) for value in row] for row in told.rows], told.corner)
    return told.curve.worth_at(number) if isinstance(told, Strand) else told


def are_same(one, other):
    if isinstance(one, Grid) != isinstance(other, Grid):
        return False
    if not isinstance(one, Grid):
        return same(one, other)
    return (one.height, one.width, one.corner) == (other.height, other.width, other.corner) and all(
        same(value, peer) for value, peer in zip(one.cells(), other.cells()))


class AllInputs(Calls, Case):
    def some(self, span, is_grid):
        if is_grid:
            height, width = self.chance.choice([(1, 1), (1, 3), (3, 1), (2, 2)])
            return Grid([[self.some(span, False) for _ in range(width)] for _ in range(height)],
                        self.chance.choice([None, (2, 3)]))
        if self.chance.random() < 0.45:
            return strand(self.chance.choice(CURVES), span)
        return self.chance.choice(PLAIN)

    def arguments(self, name, span):
        least, most = takes(name)
        many = self.chance.randint(least, most if most is not None else least + 3)
        if name in ("COUNTIFS", "IFS", "SUMIFS", "MINIFS", "MAXIFS"):
            many = least + (many - least) // 2 * 2
        sorts = [place_sort(name, many, at) for at in range(many)]
        return [self.some(span, sort == "wide" or (sort == "free" and self.chance.random() < 0.3)) for sort in sorts]

    def check(self, work, span, message):
        """A result holds at each input; Turns has a root in the span."""
        numbers = [span.low + (span.high - span.low) * Ratio(self.chance.randint(1, 999), 1000) for _ in range(3)]
        try:
            told = work(None)
        except Turns as error:
            self.assertTrue(roots_in(error.poly, span), message)
            self.assertEqual(error.poly, error.poly.plain())
            return "turns"
        except NotTold:
            return "not told"
        for number in numbers:
            self.assertTrue(are_same(put_in(told, number), work(number)), (message, number))
        return "told"

    def test_functions_at_each_input(self):
        self.chance = random.Random(6)
        seen = {}
        for name in function_names():
            for _ in range(25):
                span = self.chance.choice(SPANS)
                arguments = self.arguments(name, span)

                def work(number):
                    return call(name, arguments if number is None else [put_in(one, number) for one in arguments])
                word = self.check(work, span, (name, arguments))
                seen[word] = seen.get(word, 0) + 1
        self.assertTrue(seen["told"] > 1000 and seen["turns"] > 20 and seen["not told"] > 20, seen)

    def test_operators_at_each_input(self):
        self.chance = random.Random(7)
        for sign in OPERATORS:
            for _ in range(40):
                span = self.chance.choice(SPANS)
                pair = [self.some(span, False), self.some(span, False)]

                def work(number):
                    return operate(sign, *(pair if number is None else [put_in(one, number) for one in pair]))
                self.check(work, span, (sign, pair))


class Told(Calls, Case):
    def test_wholes_are_asked_at_their_ends_first(self):
        # Beyond the least and the greatest whole that make a difference the whole part is not asked.
        self.tells("abc", "LEFT", "abc", root_strand(Span(3, None)))
        self.tells("#VALUE", "LEFT", "abc", root_strand(Span(None, 0)))
        self.tells("#NUM", "ROUND", 1, root_strand(Span(31, None)))
        self.tells("#NUM", "YEAR", root_strand(Span(None, 1)))
        self.tells("#REF", "INDEX", [[1, 2]], root_strand(Span(3, 100)))
        self.tells("#VALUE", "CHOOSE", root_strand(Span(None, 1)), 5)
        self.tells(1000, "SUM", [[1000]])
        self.tells("a", "LEFT", "abc", root_strand(Span(1, 2)))
        for text, low, high in (("abc", 0, 3), ("abc", None, 3), ("abc", 2, None)):
            with self.assertRaises(Turns) as caught:
                call("LEFT", [text, root_strand(Span(low, high))])
            self.assertTrue(roots_in(caught.exception.poly, Span(low, high)))

    def test_strands(self):
        x = root_strand(UP)
        for told, name, arguments in (
                (x + 3, "SUM", (x, 3)), (x * x, "PRODUCT", (x, [[x]])), (x, "MAX", (x, -1)), (-1, "MIN", (x, -1)),
                (x * Ratio(1, 2), "AVERAGE", (x, 0)), (x, "ABS", (-x,)), (-1, "SIGN", (-x,)), (True, "ISNUMBER", (x,)),
                (x, "IF", (x, x, 2)), (x, "VALUE", (x,)), (x.inverse(), "POWER", (x, -1)), (1, "COUNT", ([[x, "a"]],)),
                (0, "INT", (root_strand(UNIT),)), (1, "ROUNDUP", (root_strand(UNIT),)), (x, "INDEX", ([[1, x]], 2)),
                ([[-1], [x]], "SORT", ([[x], [-1]],)), (x * 2 + 3, "SUMPRODUCT", ([[x, 3]], [[2, 1]])),
                (2, "MATCH", (root_strand(Span(3, 4)), [[1, 3, 4]])), (True, "AND", (x, [[x]])), ("x", "SWITCH", (x, -1, 5, "x")),
                ([[x * x + 6, x * x + x * 2 + 1]], "MMULT", ([[x, 2]], [[x, x], [3, x + Ratio(1, 2)]])), ([[x], [-1], ["A"]], "UNIQUE", (
                    [[x], [-1], [x], ["A"], [-1], ["a"]],))):
            self.tells(told, name, *arguments)
        for name, arguments in (("MAX", (x, Ratio(1))), ("INT", (x,)), ("SORT", (Grid([[x], [Ratio(1)]]),)),
                                ("IF", (root_strand(WIDE), True)), ("COUNTIF", (Grid([[x]]), ">2")),
                                ("UNIQUE", (Grid([[x], [Ratio(2)]]),)), ("MATCH", (Ratio(5), Grid([[x]]), Ratio(0)))):
            with self.assertRaises(Turns):
                call(name, list(arguments))
        for name, arguments in (("LEN", (x,)), ("TEXTJOIN", ("", True, Grid([[x]])))):
            self.fails(NotTold, {}, call, name, list(arguments))
        self.fails(TooHigh, {"most": 60}, call, "POWER", [x * x, Ratio(40)])

    def test_members(self):
        root = root_member()
        for told, name, arguments in (
                (2, "PRODUCT", (root, root)), (root + 1, "SUM", (root, 1)), (1, "INT", (root,)), (2, "ROUNDUP", (root,)),
                (Ratio(14, 10), "ROUND", (root, 1)), (Ratio(-142, 100), "ROUNDUP", (-root, 2)), (root, "MAX", (root, 1)),
                (1, "MIN", (root, 1)), ([[1], [root], [2]], "SORT", ([[root], [2], [1]],)), (1, "COUNTIF", ([[root, 1]], ">1")),
                ([[root], [1]], "UNIQUE", ([[root], [1], [root]],)), (2, "RANK", (root, [[root, 2]])), (root, "LARGE", ([[root, 1]], 1)),
                ("b", "CHOOSE", (root + 1, "a", "b")), (1, "MATCH", (root, [[root]], 0)), (root, "MEDIAN", (1, root, 2)),
                ("#NUM", "POWER", (2, root)), (2, "POWER", (root, 2)), (root - 1, "MOD", (root, 1)), (1, "QUOTIENT", (root, 1)),
                ([[root], [root + root]], "SEQUENCE", (2, 1, root, root)), ([[2]], "MMULT", (root, root)), (True, "OR", (0, root))):
            self.tells(told, name, *arguments)
        self.tells([[root, "A"], [root, "b"], [1, "a"]], "UNIQUE", [[root, "A"], [root, "a"], [root, "b"], [1, "a"], [root, "B"]])
        self.fails(NotTold, {}, call, "LEN", [root])
        point = isolate(X * X * X - 2, None, None)[0]
        self.assertIsInstance(member(point, Curve(X)), Member)
        self.assertEqual(ROOT.ratio(), None)
