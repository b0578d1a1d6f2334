"""[27], [32], [33], [34], [109]: numbers, choices and truths."""

from allinputs.errors import TooHigh
from allinputs.functions import wanted
from allinputs.grids import Grid
from allinputs.ratios import Ratio
from allinputs.values import Fault
from tests.calls import Calls, result, thing
from tests.helper import Case

HALF = Ratio(1, 2)
TABLE = [[1, 2], [3, 4]]


class Amounts(Calls, Case):
    def test_of_one_number(self):
        for name, told in (("ABS", (3, Ratio(7, 2), 0, 1, 5)), ("SIGN", (1, -1, 0, 1, 1)), ("INT", (3, -4, 0, 1, 5))):
            for value, expected in zip((3, Ratio(-7, 2), None, True, "5"), told):
                self.tells(expected, name, value)
            self.tells("#VALUE", name, "x")
            self.tells("#NA", name, "#NA")

    def test_roundings(self):
        for value, places, near, up, down in (
                (Ratio(5, 2), 0, 3, 3, 2), (Ratio(-5, 2), 0, -3, -3, -2), (Ratio(12, 5), 0, 2, 3, 2), (7, 0, 7, 7, 7),
                (Ratio(-12, 5), 0, -2, -3, -2), (Ratio(1, 3), 2, Ratio(33, 100), Ratio(34, 100), Ratio(33, 100)),
                (1250, -2, 1300, 1300, 1200), (-1250, -2, -1300, -1300, -1200), (1249, -2, 1200, 1300, 1200), (0, 5, 0, 0, 0),
                (Ratio(1, 20), 1, Ratio(1, 10), Ratio(1, 10), 0), (Ratio(-1, 20), 1, Ratio(-1, 10), Ratio(-1, 10), 0),
                (4, -1, 0, 10, 0), (-5, -1, -10, -10, 0), (Ratio(1, 10 ** 31), 30, 0, Ratio(1, 10 ** 30), 0),
                (10 ** 30, -30, 10 ** 30, 10 ** 30, 10 ** 30), (Ratio(7, 3), Ratio(3, 2), Ratio(23, 10), Ratio(24, 10),
                                                               Ratio(23, 10)), (1, 31, "#NUM", "#NUM", "#NUM"),
                (1, -31, "#NUM", "#NUM", "#NUM"), (1, Ratio(61, 2), 1, 1, 1), (1, Ratio(-61, 2), "#NUM", "#NUM", "#NUM")):
            for name, told in (("ROUND", near), ("ROUNDUP", up), ("ROUNDDOWN", down)):
                self.tells(told, name, value, places)
        for name, told in (("ROUND", 3), ("ROUNDUP", 3), ("ROUNDDOWN", 2)):
            self.tells(told, name, "2.5")
            self.tells(told, name, "2.5", None)
            self.tells("#VALUE", name, 1, "x")
            self.tells("#NA", name, "x", "#NA")

    def test_divisions(self):
        for one, other, left, cut in ((7, 3, 1, 2), (-7, 3, 2, -2), (7, -3, -2, -2), (-7, -3, -1, 2), (HALF, Ratio(1, 3),
                                      Ratio(1, 6), 1), (6, 3, 0, 2), (0, 5, 0, 0), (1, 0, "#DIV", "#DIV"),
                                      (0, None, "#DIV", "#DIV"), ("x", 0, "#VALUE", "#VALUE"), (5, "2", 1, 2)):
            self.tells(left, "MOD", one, other)
            self.tells(cut, "QUOTIENT", one, other)

    def test_power(self):
        for one, other, told in ((2, 3, 8), (0, 0, "#NUM"), (0, -1, "#DIV"), (0, -65, "#NUM"), (2, 65, "#NUM"),
                                 (4, HALF, "#NUM"), (HALF, -1, 2), ("x", "#NA", "#NA"), (1, "x", "#VALUE")):
            self.tells(told, "POWER", one, other)
        self.fails(TooHigh, {"most": 3000}, result, "POWER", Ratio(10 ** 60), Ratio(50))
        self.tells(10 ** 2940, "POWER", 10 ** 60, 49)


class Choices(Calls, Case):
    def test_if(self):
        for told, arguments in (
                (1, (True, 1, 2)), (2, (False, 1, 2)), (False, (False, 1)), (1, (True, 1)), (1, (5, 1)), (2, (None, 1, 2)),
                (1, ("true", 1, 2)), ("#VALUE", ("x", 1, 2)), ("#NA", ("#NA", 1, 2)), (1, (True, 1, "#NA")),
                ("#NA", (True, "#NA", 2)), (TABLE, (True, TABLE, 2)), (None, (False, 1, None)), ([[7]], (True, [[7]]))):
            self.tells(told, "IF", *arguments)

    def test_ifs(self):
        for told, arguments in (((1), (True, 1)), (2, (False, 1, 7, 2)), ("#NA", (False, 1, None, 2)),
                                ("#DIV", (False, 1, "#DIV", 2, True, 3)), (1, (True, 1, "#DIV", 2)),
                                ("#VALUE", ("x", 1, True, 2)), (TABLE, (False, "#NA", True, TABLE))):
            self.tells(told, "IFS", *arguments)

    def test_choose(self):
        for told, arguments in ((7, (1, 7)), (8, (2, 7, 8)), (8, (Ratio(5, 2), 7, 8, 9)), ("#VALUE", (0, 7, 8)),
                                ("#VALUE", (3, 7, 8)), ("#VALUE", ("x", 7)), ("#NA", ("#NA", 7)), (7, (True, 7, "#REF")),
                                (TABLE, ("2", 1, TABLE)), ("#VALUE", (10 ** 40, 1)), ("#VALUE", (None, 1))):
            self.tells(told, "CHOOSE", *arguments)

    def test_switch(self):
        for told, arguments in (
                ("b", (2, 1, "a", 2, "b")), ("#NA", (3, 1, "a", 2, "b")), ("c", (3, 1, "a", 2, "b", "c")),
                ("a", ("X", "x", "a")), ("a", (None, 0, "a")), ("a", (None, "", "a", "b")), ("b", (1, True, "a", "b")),
                ("#DIV", ("#DIV", 1, "a", "b")), ("#REF", (2, 1, "a", "#REF", "b", "c")), ("a", (1, 1, "a", "#REF", "b")),
                (TABLE, (1, 2, 3, TABLE)), (TABLE, (1, 1, TABLE))):
            self.tells(told, "SWITCH", *arguments)

    def test_if_error(self):
        for told, none, arguments in ((1, 1, (1, 2)), (2, "#DIV", ("#DIV", 2)), (2, 2, ("#NA", 2)), (None, None, (None, 2)),
                                      (TABLE, TABLE, ("#NA", TABLE)), ("x", "x", ("x", "#REF")),
                                      ("#REF", "#REF", ("#NA", "#REF"))):
            self.tells(told, "IFERROR", *arguments)
            self.tells(none, "IFNA", *arguments)

    def test_corners_are_lost(self):
        grid = Grid([["a", "b"]], (3, 4))
        for name, arguments in (("IF", (True, grid)), ("IFS", (True, grid)), ("CHOOSE", (1, grid)),
                                ("SWITCH", (1, 2, 3, grid)), ("IFERROR", ("#NA", grid))):
            self.tells([["a", "b"]], name, *arguments)
        self.assertEqual(grid.corner, (3, 4))

    def follow(self, name, arguments):
        """The numbers of the arguments in the order in which they are wanted."""
        known, order = {}, []
        while True:
            at = wanted(name, len(arguments), known)
            if at is None:
                return order
            order.append(at)
            known[at] = thing(arguments[at])

    def test_wanted_step_by_step(self):
        for name, arguments, order in (
                ("IF", (True, 1, 2), [0, 1]), ("IF", (False, 1, 2), [0, 2]), ("IF", (False, 1), [0]), ("IF", ("x", 1, 2), [0]),
                ("IF", ("#NA", 1), [0]), ("IF", ([[True, False]], 1, 2), [0, 1, 2]), ("IF", ([[True]], 1, 2), [0, 1, 2]),
                ("IFS", (False, 1, True, 2, True, 3), [0, 2, 3]), ("IFS", (False, 1, "#NA", 2), [0, 2]),
                ("IFS", (False, 1), [0]), ("CHOOSE", (2, 7, 8, 9), [0, 2]), ("CHOOSE", (9, 7), [0]), ("CHOOSE", ("x", 7), [0]),
                ("SWITCH", (2, 1, "a", 2, "b", "c"), [0, 1, 3, 4]), ("SWITCH", (9, 1, "a", 2, "b", "c"), [0, 1, 3, 5]),
                ("SWITCH", (9, 1, "a"), [0, 1]), ("SWITCH", ("#NA", 1, "a"), [0]), ("SWITCH", (1, "#NA", "a", 1, 2), [0, 1]),
                ("IFERROR", (1, 2), [0]), ("IFERROR", ("#DIV", 2), [0, 1]), ("IFNA", ("#DIV", 2), [0]),
                ("IFNA", ("#NA", 2), [0, 1]), ("SUM", ("#NA", 1, 2), [0, 1, 2]), ("NA", (), []), ("AND", (False, 1), [0, 1]),
                ("SWITCH", (1, [[1, 2]], 3, 4), [0, 1, 2, 3])):
            self.assertEqual(self.follow(name, arguments), order, (name, arguments))

    def test_known_in_any_order(self):
        grid = Grid([[True]])
        for name, many, known, told in (
                ("IF", 3, {}, 0), ("IF", 3, {1: None}, 0), ("IF", 3, {1: None, 0: True}, None), ("IF", 3, {2: grid}, 0),
                ("IF", 3, {0: grid}, 1), ("IF", 3, {0: grid, 1: True}, 2), ("IF", 3, {0: grid, 1: True, 2: True}, None),
                ("SUM", 3, {2: True}, 0), ("SUM", 3, {0: grid, 2: True}, 1), ("SUM", 2, {1: True, 0: True}, None),
                ("CHOOSE", 3, {2: True, 0: Ratio(2)}, None), ("SWITCH", 4, {1: grid}, 0), ("SWITCH", 4, {3: True}, 0),
                ("IF", 3, {0: True, 1: grid}, None), ("IF", 3, {0: False, 1: grid}, 2), ("CHOOSE", 3, {0: Ratio(2), 2: grid}, None),
                ("IFERROR", 2, {1: True}, 0), ("IFERROR", 2, {1: True, 0: Fault("NA")}, None), ("VLOOKUP", 3, {0: grid}, 1)):
            self.assertEqual(wanted(name, many, known), told, (name, known))
            self.assertEqual(wanted(name=name, many=many, known=dict(reversed(list(known.items())))), told)

    def test_what_is_not_needed_has_no_influence(self):
        for value in ("#NA", None, "x", 10 ** 2999, TABLE):
            self.tells(1, "IF", True, 1, value)
            self.tells(2, "IF", False, value, 2)
            self.tells(2, "IFS", False, value, True, 2)
            self.tells(8, "CHOOSE", 2, value, 8, value)
            self.tells(1, "SWITCH", 1, 1, 1, 5, value, value)
            self.tells(1, "IFERROR", 1, value)
        for value in ("#NA", None, "x", 10 ** 2999):
            self.tells(2, "IFS", True, 2, value, 3)
            self.tells(1, "SWITCH", 1, 1, 1, value, 4)


class Truths(Calls, Case):
    def test_all_any_odd(self):
        for values, told in (((True, True), "TTF"), ((True, False), "FTT"), ((False,), "FFF"), ((1, "true", None), "FTF"),
                             (([[True, "x", None, 0]],), "FTT"), (([["x", None]], True), "TTT"), ((5, 5, 5), "TTT"),
                             (([["FALSE", True]], "false"), "FTT")):
            for name, sign in zip(("AND", "OR", "XOR"), told):
                self.tells(sign == "T", name, *values)
        for name in ("AND", "OR", "XOR"):
            self.tells("#VALUE", name, [["x", None]])
            self.tells("#VALUE", name, True, "x")
            self.tells("#VALUE", name, "")

    def test_not(self):
        for value, told in ((True, False), (0, True), (None, True), ("FALSE", True), ("x", "#VALUE"), ("#NA", "#NA")):
            self.tells(told, "NOT", value)

    def test_kinds(self):
        names = ("ISERROR", "ISNA", "ISNUMBER", "ISTEXT", "ISLOGICAL", "ISBLANK")
        for value, told in (("#DIV", "ISERROR"), ("#NA", "ISERROR ISNA"), (1, "ISNUMBER"), ("", "ISTEXT"), ("1", "ISTEXT"),
                            (False, "ISLOGICAL"), (None, "ISBLANK")):
            for name in names:
                self.tells(name in told.split(), name, value)
        self.tells("#NA", "NA")
