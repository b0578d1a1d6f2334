"""[2], [26], [108], [109]: the functions' names and places; arguments that are wrong."""

from allinputs.errors import Unknown
from allinputs.functions import call, wanted
from allinputs.grids import Grid
from allinputs.ratios import Ratio
from allinputs.signatures import function_names, place_sort, takes
from allinputs.values import Fault
from tests.helper import NO_INTEGERS, Case

# For each function what it takes, and the sorts of its places: s single, w wide, f free.
SIGNATURES = """
ABS 1 1 s|AND 1 - www|AVERAGE 1 - www|AVERAGEIF 2 3 wsw|CHOOSE 2 - sff|COLUMN 0 1 w|COLUMNS 1 1 w|COUNT 1 - www
COUNTA 1 - www|COUNTBLANK 1 1 w|COUNTIF 2 2 ws|COUNTIFS 2 - wsws|DATE 3 3 sss|DAY 1 1 s|EDATE 2 2 ss|EOMONTH 2 2 ss
EXACT 2 2 ss|FILTER 2 3 wwf|FIND 2 3 sss|HLOOKUP 3 4 swss|IF 2 3 sff|IFERROR 2 2 sf|IFNA 2 2 sf|IFS 2 - sfsf
INDEX 2 3 wss|INT 1 1 s|ISBLANK 1 1 s|ISERROR 1 1 s|ISLOGICAL 1 1 s|ISNA 1 1 s|ISNUMBER 1 1 s|ISTEXT 1 1 s
LARGE 2 2 ws|LEFT 1 2 ss|LEN 1 1 s|LOOKUP 2 3 sww|LOWER 1 1 s|MATCH 2 3 sws|MAX 1 - www|MAXIFS 3 - wwsws|MEDIAN 1 - www
MID 3 3 sss|MIN 1 - www|MINIFS 3 - wwsws|MMULT 2 2 ww|MOD 2 2 ss|MONTH 1 1 s|NA 0 0 |NOT 1 1 s|OR 1 - www|POWER 2 2 ss
PRODUCT 1 - www|QUOTIENT 2 2 ss|RANK 2 3 sws|REPLACE 4 4 ssss|REPT 2 2 ss|RIGHT 1 2 ss|ROUND 1 2 ss|ROUNDDOWN 1 2 ss
ROUNDUP 1 2 ss|ROW 0 1 w|ROWS 1 1 w|SEQUENCE 1 4 ssss|SIGN 1 1 s|SMALL 2 2 ws|SORT 1 4 wsss|SUBSTITUTE 3 4 ssss|SUM 1 - www
SUMIF 2 3 wsw|SUMIFS 3 - wwsws|SUMPRODUCT 1 - www|SWITCH 3 - ssfsf|TEXT 2 2 ss|TEXTJOIN 3 - ssww|TRANSPOSE 1 1 w
TRIM 1 1 s|UNIQUE 1 2 ws|UPPER 1 1 s|VALUE 1 1 s|VLOOKUP 3 4 swss|WEEKDAY 1 2 ss|XLOOKUP 3 5 swwfs|XOR 1 - www|YEAR 1 1 s
"""
ROWS = [row.split(" ") for row in SIGNATURES.strip().replace("\n", "|").split("|")]
SORTS = {"s": "single", "w": "wide", "f": "free"}
GRID = Grid([[Ratio(1)]])
PAIRED = {"COUNTIFS": 0, "IFS": 0, "SUMIFS": 1, "MINIFS": 1, "MAXIFS": 1}


def counts(name, least, most):
    """Some numbers of arguments that a function takes, and some that it does not."""
    end = int(least) + 6 if most == "-" else int(most)
    right = [many for many in range(int(least), end + 1) if name not in PAIRED or many % 2 == PAIRED[name]]
    return right, [many for many in range(-1, end + (1 if most == "-" else 4)) if many not in right]


class Signatures(Case):
    def test_names(self):
        self.assertEqual(function_names(), tuple(row[0] for row in ROWS))
        self.assertEqual(function_names(), tuple(sorted(function_names())))

    def test_takes(self):
        for name, least, most, _ in ROWS:
            self.assertEqual(takes(name), (int(least), None if most == "-" else int(most)), name)
        self.assertEqual(takes(name="NA"), (0, 0))

    def test_places(self):
        for name, least, most, letters in ROWS:
            for many in counts(name, least, most)[0]:
                for at in range(many):
                    letter = letters[at] if at < len(letters) else letters[-2 + (at - len(letters)) % 2]
                    if name == "SWITCH" and many % 2 == 0 and at == many - 1:
                        letter = "f"
                    self.assertEqual(place_sort(name, many, at), SORTS[letter], (name, many, at))
        self.assertEqual(place_sort(name="IF", many=3, at=1), "free")
        self.assertEqual([place_sort("SWITCH", 6, at) for at in range(6)], [
            "single", "single", "free", "single", "free", "free"])

    def test_numbers_of_arguments(self):
        for name, least, most, _ in ROWS:
            right, wrong = counts(name, least, most)
            for many in right:
                for at in (-1, many, many + 1, True, None, "0"):
                    self.bad(at, place_sort, name, many, at)
            for many in wrong:
                self.bad(many, place_sort, name, many, 0)
                self.bad(many, wanted, name, many, None)
                if many >= 0:
                    arguments = [None] * many
                    self.bad(arguments, call, name, arguments)
                    self.bad(arguments, call, name, arguments, here=None)

    def test_unknown_names(self):
        for name in ("sum", "Sum", "", "SUM ", "ABSX", "NAME", "TRUE", "\u00c4"):
            self.fails(Unknown, {"name": name}, takes, name)
            self.fails(Unknown, {"name": name}, place_sort, name, None, None)
            self.fails(Unknown, {"name": name}, call, name, None, here=None)
            self.fails(Unknown, {"name": name}, wanted, name, None, None)
        for name in (None, 1, True, ["SUM"], b"SUM"):
            self.bad(name, takes, name)
            self.bad(name, place_sort, name, None, None)
            self.bad(name, call, name, None)
            self.bad(name, wanted, name, None, None)


class Arguments(Case):
    def test_grids_at_single_places(self):
        for name, least, most, letters in ROWS:
            for many in counts(name, least, most)[0]:
                for at in range(many):
                    if place_sort(name, many, at) == "single":
                        arguments = [True] * many
                        arguments[at] = GRID
                        self.bad(GRID, call, name, arguments)
        first = Grid([["x"]])
        self.bad(first, call, "LEFT", [first, GRID])
        self.bad(GRID, call, "IF", (True, True, GRID)[2:] + (True,))
        arguments = [GRID, 1]
        self.bad(arguments[1], call, "LEFT", arguments)
        arguments = [GRID, True, True]
        self.bad(arguments, call, "LEFT", arguments)

    def test_wrong_things(self):
        for value in (None, 1, "ab", {}, GRID, True):
            self.bad(value, call, "SUM", value)
        for value in (1, [], "a\n", "x" * 1001, (), object(), b"x", [[True]]):
            self.bad(value, call, "SUM", [True, value, 2])
            self.bad(value, call, "NOT", [value, value, value])
        for value in (None, 1, (1,), (1, 2, 3), (0, 1), (1, 0), (True, 1), ("a", 1), (Ratio(1), 1), {}):
            self.bad(value, call, "NA", [], here=value)
        self.assertEqual(call(name="SUM", arguments=(Ratio(1),), here=(5, 5)), Ratio(1))
        arguments = [Ratio(1), Ratio(2)]
        call("SUM", arguments)
        self.assertEqual(arguments, [Ratio(1), Ratio(2)])

    def test_wrong_things_of_wanted(self):
        for value in NO_INTEGERS:
            self.bad(value, wanted, "SUM", value, None)
        for value in (None, [], 1, "x", {2: True}, {-1: True}, {True: True}, {"0": True}, {0: 1}, {0: [True]}, {0.5: True},
                      {0: True, 1: "a\n"}):
            self.bad(value, wanted, "SUM", 2, value)
        known = {1: True}
        self.assertEqual(wanted("SUM", 2, known), 0)
        self.assertEqual(known, {1: True})

    def test_each_function_is_called(self):
        for name, least, most, _ in ROWS:
            for many in counts(name, least, most)[0]:
                for value in (None, Fault("NA"), Ratio(1), "x"):
                    told = call(name, [value] * many)
                    self.assertNotIsInstance(told, int if not isinstance(told, bool) else str, name)
