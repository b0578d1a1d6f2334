"""[26], [27], [29], [31], [109]: sums and counts, also by criteria."""

from allinputs.errors import TooHigh
from allinputs.ratios import Ratio
from tests.calls import Calls, result
from tests.helper import Case

MIXED = [[3, "5"], [None, True], [-1, 3]]
HALF = Ratio(1, 2)


class Totals(Calls, Case):
    def test_numbers_of_wide_arguments(self):
        # Within grids numbers alone count, values by themselves are turned.
        for name, told, passed in (("SUM", 5, 11), ("PRODUCT", -9, -45), ("MIN", -1, -1), ("MAX", 3, 5),
                                   ("AVERAGE", Ratio(5, 3), Ratio(11, 5)), ("MEDIAN", 3, 3), ("COUNT", 3, 5)):
            self.tells(told, name, MIXED)
            self.tells(passed, name, "5", True, MIXED)
        self.tells(10, "SUM", MIXED, MIXED)
        self.tells(0, "SUM", None)
        self.tells(1, "COUNT", None)
        self.tells(-1, "MIN", MIXED, None)
        self.tells(Ratio(7, 6), "SUM", HALF, Ratio(2, 3))
        self.tells(Ratio(1, 3), "SUM", [[HALF, Ratio(-2, 3), HALF]])
        self.tells(0, "PRODUCT", 5, 0, "7")

    def test_no_number(self):
        for name, told in (("SUM", 0), ("PRODUCT", 0), ("MIN", 0), ("MAX", 0), ("AVERAGE", "#DIV"), ("MEDIAN", "#NUM"),
                           ("COUNT", 0)):
            self.tells(told, name, [["x", None, True, "5"]])

    def test_faults(self):
        for name in ("SUM", "PRODUCT", "MIN", "MAX", "AVERAGE", "MEDIAN", "SUMPRODUCT", "AND", "OR", "XOR"):
            self.tells("#NA", name, "x", [["#NA", "#DIV"]])
            self.tells("#DIV", name, 1, [[1, "#DIV"], ["#NA", 1]], "#REF")
            self.tells("#REF", name, "#REF", [["#NA"]])
        for name in ("SUM", "PRODUCT", "MIN", "MAX", "AVERAGE", "MEDIAN"):
            self.tells("#VALUE", name, 1, "x", MIXED)
        for name in ("LARGE", "SMALL"):
            self.tells("#NA", name, [["#NA"]], "#DIV")
            self.tells("#DIV", name, "x", "#DIV")
            self.tells("#VALUE", name, "x", 1)
            self.tells("#VALUE", name, [[1]], "x")
            self.tells("#VALUE", name, [["x"]], "x")
        self.tells("#REF", "RANK", "#REF", [["#NA"]], "#DIV")
        self.tells("#NA", "RANK", "x", [["#NA"]], "#DIV")
        self.tells("#DIV", "RANK", 1, [[2]], "#DIV")
        self.tells("#VALUE", "RANK", "x", [[2]])
        self.tells("#VALUE", "RANK", 1, [[1]], "x")

    def test_median_large_small_rank(self):
        row = [[5, 1, 3, 3, "9"]]
        self.tells(3, "MEDIAN", row)
        self.tells(2, "MEDIAN", 1, 3)
        self.tells(Ratio(5, 2), "MEDIAN", [[4, 1, 2, 3]])
        for k, large, small in ((1, 5, 1), (2, 3, 3), (3, 3, 3), (4, 1, 5), (0, "#NUM", "#NUM"), (5, "#NUM", "#NUM"),
                                (-1, "#NUM", "#NUM"), (Ratio(5, 2), 3, 3), ("4", 1, 5), (True, 5, 1), (None, "#NUM", "#NUM"),
                                (10 ** 50, "#NUM", "#NUM")):
            self.tells(large, "LARGE", row, k)
            self.tells(small, "SMALL", row, k)
        self.tells(7, "LARGE", "7", 1)
        for x, down, up in ((5, 1, 4), (3, 2, 2), (1, 4, 1), (4, "#NA", "#NA"), (9, "#NA", "#NA"), ("3", 2, 2)):
            self.tells(down, "RANK", x, row)
            self.tells(down, "RANK", x, row, False)
            self.tells(down, "RANK", x, row, None)
            self.tells(up, "RANK", x, row, True)
            self.tells(up, "RANK", x, row, 7)
        self.tells(1, "RANK", 2, "2")

    def test_sum_of_products(self):
        self.tells(11, "SUMPRODUCT", [[1, 2]], [[3, 4]])
        self.tells(3, "SUMPRODUCT", [[1, 2]])
        self.tells(3, "SUMPRODUCT", [[1, "2", 5, None]], [[3, 4, True, 7]])
        self.tells("#VALUE", "SUMPRODUCT", [[1, 2]], [[1], [2]])
        self.tells("#VALUE", "SUMPRODUCT", [[1, 2]], 5)
        self.tells(10, "SUMPRODUCT", 2, 5)
        self.tells(0, "SUMPRODUCT", "2", 5)
        self.tells(24, "SUMPRODUCT", [[1], [2]], [[2], [2]], [[4], [4]])

    def test_counts(self):
        row = [["", None, "x", 1, True, "#NA", "5"]]
        for name, told in (("COUNT", 1), ("COUNTA", 6), ("COUNTBLANK", 2)):
            self.tells(told, name, row)
        self.tells(3, "COUNT", "5", "x", "#NA", True, None, "1/0")
        self.tells(5, "COUNTA", "5", "x", "#NA", None, "", [[None, 1]])
        for value, told in ((None, 1), ("", 1), ("x", 0), ("#NA", 0), (0, 0), (False, 0)):
            self.tells(told, "COUNTBLANK", value)

    def test_numbers_of_many_digits(self):
        long = Ratio(10 ** 2999)
        self.tells(Ratio(10 ** 3000 - 1), "SUM", Ratio(10 ** 3000 - 2), 1)
        for name, arguments in (("SUM", (Ratio(10 ** 3000 - 1), 1)), ("PRODUCT", (long, 10)), ("PRODUCT", (long, long)),
                                ("SUM", (Ratio(1, 10 ** 2000), Ratio(1, 10 ** 2000 + 1)))):
            self.fails(TooHigh, {"most": 3000}, result, name, *arguments)
        # What would take too long on the way to a result is not worked out; with a factor 0 nothing is.
        self.fails(TooHigh, {"most": 3000}, result, "PRODUCT", [[long]] * 10000)
        self.tells(0, "PRODUCT", 0, [[long]] * 9000)
        self.fails(TooHigh, {"most": 3000}, result, "SUM", [[Ratio(1, 10 ** 2999 + at)] for at in range(1, 2001, 2)])
        self.tells(1, "COUNT", long)
        self.tells(long, "MAX", long, 1)


class Counts(Calls, Case):
    def setUp(self):
        self.keys = [["a"], ["B"], ["A"], [None], ["#NA"]]
        self.sums = [[1], [2], [4], [8], [16]]

    def test_one_criterion(self):
        for criterion, many, total, average in (
                ("a", 2, 5, Ratio(5, 2)), ("<>a", 2, 10, 5), ("z", 0, 0, "#DIV"), ("*", 3, 7, Ratio(7, 3)),
                ("=", 1, 8, 8), ("", 1, 8, 8), (">a", 1, 2, 2)):
            self.tells(many, "COUNTIF", self.keys, criterion)
            self.tells(total, "SUMIF", self.keys, criterion, self.sums)
            self.tells(average, "AVERAGEIF", self.keys, criterion, self.sums)
        self.tells(6, "SUMIF", MIXED, ">0")
        self.tells(3, "AVERAGEIF", MIXED, ">0")
        self.tells(6, "SUMIF", self.sums, "<5", [[1], [2], [3], [4], [5]])
        # Nothing is turned: a text at a chosen place is no number.
        self.tells(1, "SUMIF", [[1, 1, 1]], 1, [[1, "5", True]])
        self.tells(1, "COUNTIF", 5, ">=5")
        self.tells(5, "SUMIF", 5, 5)
        self.tells(0, "SUMIF", "5", "5")

    def test_several_criteria(self):
        other = [[1], [2], [3], [4], [5]]
        self.tells(1, "COUNTIFS", self.keys, "a", other, ">1")
        self.tells(2, "COUNTIFS", self.keys, "a")
        for name, told, none in (("SUMIFS", 5, 0), ("MINIFS", 1, 0), ("MAXIFS", 4, 0)):
            self.tells(told, name, self.sums, self.keys, "a")
            self.tells(none, name, self.sums, self.keys, "a", other, ">9")
        self.tells(4, "SUMIFS", self.sums, self.keys, "a", other, ">1")

    def test_faults(self):
        # Faults within grids stay where they are; those at chosen places of h come out, the first one.
        faults = [["#DIV"], [2], ["#REF"], [8], ["#NUM"]]
        self.tells("#DIV", "SUMIF", self.keys, "a", faults)
        self.tells(2, "SUMIF", self.keys, "b", faults)
        self.tells("#REF", "MAXIFS", faults, self.keys, "A", [[0], [0], [1], [1], [1]], 1)
        self.tells("#DIV", "AVERAGEIF", self.keys, "a", faults)
        self.tells(3, "COUNTIF", [[1, "#NA", 2, 3]], ">0")
        for name in ("COUNTIF", "SUMIF", "AVERAGEIF"):
            self.tells("#REF", name, "#REF", "#NA")
            self.tells("#NA", name, self.keys, "#NA")
        self.tells("#NUM", "SUMIFS", "#NUM", self.keys, "#NA")
        self.tells("#NUM", "SUMIF", self.keys, "a", "#NUM")

    def test_sizes(self):
        turned = [[1, 2, 3, 4, 5]]
        for name, arguments in (("SUMIF", (self.keys, "a", turned)), ("AVERAGEIF", (self.keys, "a", [[1], [2]])),
                                ("COUNTIFS", (self.keys, "a", turned, 1)), ("SUMIFS", (turned, self.keys, "a")),
                                ("SUMIF", ([[1], [2]], 1, [[1, 2], [3, 4]])),
                                ("COUNTIFS", ([[1], [2]], 1, [[1, 2], [3, 4]], 1)),
                                ("MINIFS", (self.sums, self.keys, "a", turned, 1)), ("MAXIFS", (5, self.keys, "a"))):
            self.tells("#VALUE", name, *arguments)
