"""[2], [12], [94]: numbers in texts."""

import random
import re
from fractions import Fraction
from itertools import product

from allinputs.errors import NotANumber, TooHigh
from allinputs.numerals import number_text, read_number
from allinputs.ratios import Ratio
from tests.helper import NO_RATIOS, Case, fraction, root_member, root_strand

FORM = re.compile(r" *[+-]?((\d+\.?\d*|\.\d+)([eE][+-]?\d{1,2})?|\d+/\d*[1-9]\d*) *")
ENDINGS = ["", "1", "/1", "5"]


def read_by_pattern(text):
    """The Fraction that a text is, None if it is none."""
    if not FORM.fullmatch(text):
        return None
    if "/" in text:
        return Fraction(text.replace(" ", "").lstrip("+"))
    word = text.strip().lower().lstrip("+")
    digits, _, power = word.partition("e")
    sign = -1 if digits.startswith("-") else 1
    ahead, _, behind = digits.lstrip("-").partition(".")
    return sign * Fraction(int(ahead + behind)) * Fraction(10) ** (int(power or "0") - len(behind))


def begins_a_number(text):
    """Whether some number begins with a text."""
    return any(FORM.fullmatch(text + ending) for ending in ENDINGS)


def place_by_pattern(text):
    for at in range(len(text)):
        if not begins_a_number(text[:at + 1]):
            return at
    return len(text)


class Reading(Case):
    def test_forms(self):
        told = [("12", "12"), (".5", "1/2"), ("3.", "3"), ("0.50", "1/2"), ("007", "7"), ("2e3", "2000"),
                ("-.5E-07", "-1/20000000"), ("7/3", "7/3"), ("4/6", "2/3"), ("+5", "5"), ("-5", "-5"), ("  1  ", "1"),
                (" -1/2 ", "-1/2"), ("+1/02", "1/2"), ("1e+2", "100"), ("1e-2", "1/100"), ("1E0", "1"), ("1e00", "1"),
                ("0/5", "0"), ("-0", "0"), ("3.e2", "300"), ("1.25e1", "25/2"), ("00.10", "1/10"), ("5/010", "1/2")]
        for text, number in told:
            self.assertEqual(str(read_number(text)), number)
        self.assertEqual(read_number(text="1e99"), Ratio(10 ** 99))
        self.assertEqual(read_number("1e-99"), Ratio(1, 10 ** 99))
        self.assertEqual(read_number("9" * 1000), Ratio(10 ** 1000 - 1))
        self.assertEqual(read_number("1/" + "3" * 998), Ratio(1, (10 ** 998 - 1) // 3))
        self.assertEqual(read_number("." + "0" * 998 + "1"), Ratio(1, 10 ** 999))
        self.assertEqual(read_number(" " * 999 + "7"), Ratio(7))

    def test_wrong_places(self):
        told = [("", 0), (" ", 1), ("x", 0), (" x", 1), ("+", 1), ("-", 1), ("+-1", 1), ("- 1", 1), (".", 1), ("..", 1),
                (".e1", 1), ("1..", 2), ("1.2.3", 3), ("1e", 2), ("1e+", 3), ("1ee", 2), ("1e123", 4), ("1e1.5", 3),
                ("1e +1", 2), ("1 2", 2), ("1 e5", 2), ("1/", 2), ("1/0", 3), ("1/00", 4), ("1/0 ", 3), ("1/-2", 2),
                ("1/2/3", 3), ("1./2", 2), ("1.5/2", 3), ("1e2/3", 3), ("1/2e3", 3), ("1/2.", 3), ("1,5", 1), ("TRUE", 0),
                ("12a", 2), ("1  ,", 3), ("/2", 0), ("e5", 0), ("0x10", 1), ("1_000", 1), ("--1", 1), ("1-", 1),
                ("+ 1", 1), ("1/ 2", 2), ("1 /2", 2), ("$1", 0), ("1e5x", 3), ("1e55x", 4), ("Infinity", 0), ("nan", 0)]
        for text, at in told:
            self.fails(NotANumber, {"at": at}, read_number, text)
        self.fails(NotANumber, {"at": 1000}, read_number, " " * 1000)
        self.fails(NotANumber, {"at": 999}, read_number, "1" * 999 + "x")

    def test_all_short_texts(self):
        for many in range(6):
            for signs in product("01.e+/ ", repeat=many):
                text = "".join(signs)
                self.check(text)
        random.seed(51)
        for _ in range(20000):
            self.check("".join(random.choice("0123.eE+-/ ") for _ in range(random.randint(5, 10))))

    def check(self, text):
        expected = read_by_pattern(text)
        if expected is None:
            self.fails(NotANumber, {"at": place_by_pattern(text)}, read_number, text)
        else:
            self.assertEqual(fraction(read_number(text)), expected)

    def test_wrong_arguments(self):
        for value in (None, 1, True, 1.5, Ratio(1), ["1"], b"1", "1" * 1001, " " * 1001, "1\n", "\t1", "\u0661", "1\u00a0",
                      "x\x7f", "\u00b2"):
            self.bad(value, read_number, value)


class Writing(Case):
    def test_texts(self):
        told = [(Ratio(3), "3"), (Ratio(-3), "-3"), (Ratio(0), "0"), (Ratio(1, 2), "0.5"), (Ratio(-1, 4), "-0.25"),
                (Ratio(7, 3), "7/3"), (Ratio(-7, 3), "-7/3"), (Ratio(3, 2), "1.5"), (Ratio(-12345, 100), "-123.45"),
                (Ratio(1, 1000), "0.001"), (Ratio(1, 6), "1/6"), (Ratio(10 ** 20), "1" + "0" * 20), (Ratio(1, 7), "1/7"),
                (Ratio(1, 1024), "0.0009765625"), (Ratio(101, 100), "1.01"), (Ratio(100, 5 ** 3), "0.8")]
        for ratio, text in told:
            self.assertEqual(number_text(ratio), text)
        self.assertEqual(number_text(ratio=5), "5")
        self.assertEqual(number_text(-5), "-5")

    def test_sixty_decimals(self):
        self.assertEqual(number_text(Ratio(1, 10 ** 60)), "0." + "0" * 59 + "1")
        self.assertEqual(number_text(Ratio(-1, 10 ** 61)), "-1/1" + "0" * 61)
        self.assertEqual(number_text(Ratio(1, 2 ** 60)), "0." + str(5 ** 60).zfill(60))
        self.assertEqual(number_text(Ratio(1, 2 ** 61)), "1/" + str(2 ** 61))
        self.assertEqual(number_text(Ratio(3, 5 ** 60)), "0." + str(3 * 2 ** 60).zfill(60))
        self.assertEqual(number_text(Ratio(1, 5 ** 61)), "1/" + str(5 ** 61))
        self.assertEqual(number_text(Ratio(1, 2 ** 60 * 5 ** 61)), "1/" + str(2 ** 60 * 5 ** 61))
        self.assertEqual(number_text(Ratio(7, 3 * 10 ** 2)), "7/300")

    def test_what_is_written_is_read(self):
        random.seed(52)
        for _ in range(500):
            bottom = random.choice([1, 2, 5, 10, 3, 7]) ** random.randint(0, 20) * random.choice([1, 2, 5, 9])
            ratio = Ratio(random.randint(-10 ** 12, 10 ** 12), bottom)
            self.assertEqual(read_number(number_text(ratio)), ratio)

    def test_too_many_digits(self):
        long = 10 ** 3000
        self.assertEqual(number_text(Ratio(long - 1)), "9" * 3000)
        self.assertEqual(number_text(Ratio(1 - long)), "-" + "9" * 3000)
        self.assertEqual(number_text(Ratio(1, long - 1)), "1/" + "9" * 3000)
        self.assertEqual(number_text(Ratio(long - 1, 2)), str((long - 1) // 2) + ".5")
        for ratio in (Ratio(long), Ratio(-long), Ratio(1, long), Ratio(1, long + 1), long):
            self.fails(TooHigh, {"most": 3000}, number_text, ratio)

    def test_wrong_arguments(self):
        for value in NO_RATIOS + (None, root_strand(), root_member()):
            self.bad(value, number_text, value)
