"""[27], [37], [38], [107], [109]: texts and days."""

import datetime
import random

from allinputs.days import date_of, day_number
from allinputs.errors import NotTold
from allinputs.ratios import Ratio
from tests.calls import Calls, result
from tests.helper import NO_INTEGERS, Case, root_member, root_strand

LAST = 2958464
LONG = "x" * 1000


class Texts(Calls, Case):
    def check(self, name, rows):
        for told, *arguments in rows:
            self.tells(told, name, *arguments)

    def test_parts_of_texts(self):
        self.check("LEN", [(3, "abc"), (0, ""), (0, None), (4, True), (3, Ratio(1, 2)), (3, Ratio(1, 3)), ("#NA", "#NA")])
        self.check("LEFT", [("a", "abc"), ("ab", "abc", 2), ("abc", "abc", 9), ("", "abc", 0), ("#VALUE", "abc", -1),
                            ("", "abc", None), ("ab", "abc", Ratio(29, 10)), ("#VALUE", "abc", Ratio(-1, 2)), ("", ""),
                            ("abc", "abc", 10 ** 40), ("12", 123, "2"), ("#VALUE", "abc", "x"), ("#VALUE", "", -1)])
        self.check("RIGHT", [("c", "abc"), ("bc", "abc", 2), ("abc", "abc", 9), ("", "abc", 0), ("#VALUE", "abc", -1),
                             ("", ""), ("abc", "abc", 3), ("#DIV", "abc", "#DIV")])
        self.check("MID", [("b", "abc", 2, 1), ("bc", "abc", 2, 9), ("", "abc", 4, 1), ("", "abc", 9, 9), ("", "abc", 1, 0),
                           ("#VALUE", "abc", 0, 1), ("#VALUE", "abc", 1, -1), ("abc", "abc", 1, 3), ("#VALUE", "abc", "x", 1),
                           ("#VALUE", "abc", None, 1), ("", "abc", 2, None)])
        self.check("REPLACE", [("aXc", "abc", 2, 1, "X"), ("Xabc", "abc", 1, 0, "X"), ("abcX", "abc", 9, 9, "X"),
                               ("abX", "abc", 3, 99, "X"), ("abcX", "abc", 4, 1, "X"), ("#VALUE", "abc", 0, 1, "X"),
                               ("#VALUE", "abc", 1, -1, "X"), ("#VALUE", LONG, 1, 0, "y"), ("y" + LONG[1:], LONG, 1, 1, "y"),
                               ("ac", "abc", 2, 1, None)])

    def test_finding_and_changing(self):
        self.check("FIND", [(2, "b", "abab"), (4, "b", "abab", 3), (1, "", "abc"), (4, "", "abc", 4), ("#VALUE", "", "abc", 5),
                            ("#VALUE", "B", "abab"), ("#VALUE", "b", "abab", 5), ("#VALUE", "b", "abab", 0), (1, "", ""),
                            ("#VALUE", "x", "", 1), (3, "c", "abc", Ratio(7, 2)), (2, 2, 123), ("#NA", "#NA", "#DIV"),
                            ("#VALUE", "a", "abc", 10 ** 30), ("#VALUE", "a", "abc", "x")])
        self.check("SUBSTITUTE", [("xbxb", "abab", "a", "x"), ("abxb", "abab", "a", "x", 2), ("abab", "abab", "a", "x", 3),
                                  ("abab", "abab", "A", "x"), ("xa", "aaa", "aa", "x"), ("abab", "abab", "", "x"),
                                  ("abab", "abab", "", "x", 1), ("#VALUE", "abab", "a", "x", 0), ("#VALUE", "abab", "", "x", 0),
                                  ("bb", "abab", "a", None), ("#VALUE", LONG, "x", "yy"), ("aXa", "aaa", "a", "X", Ratio(5, 2)),
                                  ("aaa", "aaa", "a", "X", 10 ** 20), ("#VALUE", "a", "a", "a", "x")])
        self.check("UPPER", [("AB1", "aB1"), ("TRUE", True), ("", None)])
        self.check("LOWER", [("ab1", "aB1"), ("true", True)])
        self.check("TRIM", [("a b", "  a   b "), ("", "   "), ("a", "a"), ("#REF", "#REF")])
        self.check("REPT", [("abab", "ab", 2), ("", "ab", 0), ("#VALUE", "ab", -1), (LONG, "x", 1000), ("#VALUE", "x", 1001),
                            ("", "", 10 ** 50), ("#VALUE", "", -1), ("abab", "ab", Ratio(5, 2)), ("#VALUE", "ab", 10 ** 50)])
        self.check("EXACT", [(True, "a", "a"), (False, "a", "A"), (True, 1, "1"), (True, None, ""), ("#NA", "a", "#NA")])

    def test_joining_and_showing(self):
        self.check("TEXTJOIN", [
            ("a,b", ",", True, "a", "b"), ("a,1,TRUE", ",", True, [["a", 1], [None, True]]),
            ("a,1,,TRUE", ",", False, [["a", 1], [None, True]]), ("", ",", True, None), (",", ",", False, [[None, ""]]),
            ("#DIV", ",", "x", [["#DIV"]]), ("#NA", "#NA", True, "#DIV"), ("#REF", ",", True, "a", [[1, "#REF"]], "#NA"),
            ("#VALUE", ",", "x", "a"), ("#VALUE", ",", True, LONG, "a"), (LONG, ",", True, LONG, ""),
            ("a1b", 1, 0, "a", "b"), ("ab", None, 1, "a", "b")])
        self.check("VALUE", [(5, "5"), ("#VALUE", "x"), (1, True), (0, None), ("#NA", "#NA")])
        self.check("TEXT", [("1.50", Ratio(3, 2), "0.00"), ("#VALUE", 1, "0.x"), ("abc", "abc", "0"), ("TRUE", True, "0"),
                            ("", None, "0"), ("#NA", "#NA", "x"), ("#REF", 1, "#REF"), ("5", 5, 0), ("#VALUE", 1, "\"" + "y" * 998),
                            ("", 7, "")])

    def test_texts_of_numbers_that_are_not_told(self):
        for number in (root_strand(), root_member()):
            for name, arguments in (("LEN", (number,)), ("LEFT", (number,)), ("UPPER", (number,)), ("EXACT", ("a", number)),
                                    ("TEXTJOIN", (",", True, [["a", number]])), ("TEXT", (1, number)), ("FIND", ("a", number))):
                self.fails(NotTold, {}, result, name, *arguments)
            self.tells("#NA", "LEFT", number, "#NA")
            self.tells("#NA", "TEXTJOIN", ",", True, number, "#NA")
            self.tells("#VALUE", "LEFT", "abc", -number)
            self.tells("#VALUE", "REPLACE", "a", "x", 1, number)
            self.tells(number, "VALUE", number)
        self.tells("a", "LEFT", "abc", root_member())


class Days(Calls, Case):
    def test_day_numbers(self):
        first = datetime.date(1900, 1, 1)
        chance = random.Random(2)
        for number in [1, 2, 31, 32, 59, 60, 61, 365, 366, 367, 36525, LAST - 1, LAST] + [
                chance.randint(1, LAST) for _ in range(2000)]:
            day = first + datetime.timedelta(number - 1)
            self.assertEqual(date_of(number), (day.year, day.month, day.day))
            self.assertEqual(day_number(day.year, day.month, day.day), number)
        self.assertEqual(first.weekday(), 0)
        self.assertEqual(date_of(number=LAST), (9999, 12, 31))
        self.assertEqual(day_number(year=1900, month=1, day=1), 1)
        for year, month, day in ((1899, 12, 31), (10000, 1, 1), (1900, 2, 29), (2023, 2, 29), (2100, 2, 29), (2024, 2, 30),
                                 (2024, 13, 1), (2024, 0, 1), (2024, 1, 0), (2024, 1, 32), (2024, 4, 31), (-5, 1, 1)):
            self.assertIsNone(day_number(year, month, day))
        self.assertEqual(day_number(2000, 2, 29), day_number(2000, 3, 1) - 1)
        for value in NO_INTEGERS:
            self.bad(value, day_number, value, "x", 1)
            self.bad(value, day_number, 2024, value, "x")
            self.bad(value, day_number, 2024, 1, value)
        for value in NO_INTEGERS + (0, -1, LAST + 1):
            self.bad(value, date_of, value)

    def test_date(self):
        for told, arguments in (
                (1, (1900, 1, 1)), (LAST, (9999, 12, 31)), (45687, (2024, 14, 0)), (day_number(2023, 12, 1), (2024, 0, 1)),
                (day_number(2022, 11, 15), (2024, -13, 15)), (day_number(2024, 3, 1), (2024, 2, 30)), ("#NUM", (1899, 13, 1)),
                ("#NUM", (10000, 0, 1)), ("#NUM", (9999, 13, 1)), ("#NUM", (1900, 0, 40)), ("#NUM", (1900, 1, 0)),
                (LAST, (1900, 1, LAST)), ("#NUM", (1900, 1, LAST + 1)), (1, (9999, 12, 2 - day_number(9999, 12, 1))),
                ("#NUM", (9999, 12, 1 - day_number(9999, 12, 1))), ("#VALUE", ("x", 1, 1)), ("#VALUE", (1800, "x", 1)),
                ("#NA", ("x", 1, "#NA")), (1, (Ratio(3801, 2), Ratio(3, 2), Ratio(3, 2))), ("#NUM", (2024, 10 ** 30, 1)),
                ("#NUM", (2024, 1, -10 ** 30)), (day_number(9999, 12, 1), (1900, 97200, 1)), ("#NUM", (1900, 97201, 1))):
            self.tells(told, "DATE", *arguments)

    def test_parts_of_dates(self):
        for day, told in ((1, (1900, 1, 1)), (LAST, (9999, 12, 31)), (Ratio(121, 2), (1900, 3, 1)), ("60", (1900, 3, 1))):
            for name, expected in zip(("YEAR", "MONTH", "DAY"), told):
                self.tells(expected, name, day)
        for name in ("YEAR", "MONTH", "DAY", "WEEKDAY"):
            for day in (0, LAST + 1, Ratio(1, 2), -1, None, False, 10 ** 40):
                self.tells("#NUM", name, day)
            self.tells("#VALUE", name, "x")
            self.tells("#NA", name, "#NA")

    def test_weekdays(self):
        for number in (1, 2, 6, 7, 8, 45000, LAST):
            day = (datetime.date(1900, 1, 1) + datetime.timedelta(number - 1)).weekday()
            self.tells((day + 1) % 7 + 1, "WEEKDAY", number)
            self.tells((day + 1) % 7 + 1, "WEEKDAY", number, 1)
            self.tells(day + 1, "WEEKDAY", number, 2)
        for way in (0, 3, -1, None, 10 ** 30):
            self.tells("#NUM", "WEEKDAY", 5, way)
        self.tells("#VALUE", "WEEKDAY", 0, "x")

    def test_months_later(self):
        for day, months, same, end in (
                ((2024, 1, 31), 1, (2024, 2, 29), (2024, 2, 29)), ((2023, 1, 31), 1, (2023, 2, 28), (2023, 2, 28)),
                ((2024, 2, 29), 12, (2025, 2, 28), (2025, 2, 28)), ((2024, 5, 15), -5, (2023, 12, 15), (2023, 12, 31)),
                ((2024, 5, 15), 0, (2024, 5, 15), (2024, 5, 31)), ((1900, 1, 1), 97199, (9999, 12, 1), (9999, 12, 31)),
                ((9999, 12, 31), -97199, (1900, 1, 31), (1900, 1, 31)), ((2000, 3, 30), -1, (2000, 2, 29), (2000, 2, 29))):
            number = day_number(*day)
            self.tells(day_number(*same), "EDATE", number, months)
            self.tells(day_number(*end), "EOMONTH", number, months)
        for name in ("EDATE", "EOMONTH"):
            for day, months in ((1, -1), (LAST, 1), (1, 97200), (0, 1), (LAST + 1, -5), (5, 10 ** 30), (5, -10 ** 30)):
                self.tells("#NUM", name, day, months)
            self.tells("#VALUE", name, 0, "x")
            self.tells("#NA", name, "x", "#NA")
            self.tells(result(name, 100, 1), name, 100, Ratio(3, 2))
