"""[2], [10], [69], [70], [71], [72], [98], [99]: formats."""

import random
import re
from fractions import Fraction
from itertools import product

from allinputs.curves import Curve
from allinputs.errors import NotAFormat, Turns
from allinputs.formats import Format, shown
from allinputs.points import Point
from allinputs.ratios import Ratio
from allinputs.shownalike import bands
from allinputs.spans import Span
from allinputs.strands import strand
from allinputs.values import FAULT_KINDS, Fault
from tests.helper import UNIT, WIDE, X, Case, fraction, root_member, root_strand
from tests.test_values import NO_VALUES

LITERALS = r'(?:[ $()+\-:/]|"(?:[ !#-~]|"")*")*'
WHOLE = r"(?:#(?:,?#)*(?:,?0)*|0(?:,?0)*)"
DIGITS = WHOLE + r"(?:\.(?:0+#*|#+))?,*"
SECTION = f"{LITERALS}(?:{DIGITS}{LITERALS})?"
FORMAT = re.compile(f"{SECTION}(?:;{SECTION}){{0,2}}|{SECTION};{SECTION};{SECTION};{LITERALS}(?:@{LITERALS})?")
ENDINGS = ["", "0", "\"", ".0", "\"\""]


def begins_a_format(text):
    return any(FORMAT.fullmatch(text + ending) for ending in ENDINGS)


def place_by_pattern(text):
    for at in range(len(text)):
        if not begins_a_format(text[:at + 1]):
            return at
    return len(text)


def show(number, text):
    return shown(number, Format(text))


class FormatTexts(Case):
    def test_texts(self):
        for text in ("", ";", ";;", ";;;", "0", "#", "#,##0.00", "0;0;0", ";;;@", "\"a\"\"b\"", "$ #,##0;($ #,##0);\"-\"",
                     "0,,", "#,", "0.0##,,", "-0:", "+(0)/", "\"\"", "\"\"\"\"", ";;;\"<\"@\">\"", "#,#,0,0",
                     " " * 1000, "#.#", "0000.0000####"):
            self.assertEqual(Format(text).text, text)
        self.assertEqual(Format(text="0").text, "0")
        told = Format("\"a;b@#\"")
        self.assertEqual(shown(Ratio(7), told), "a;b@#")

    def test_equality(self):
        self.assertTrue(Format("0.0") == Format("0." + "0"))
        self.assertFalse(Format("0.0") == Format("0.0 "))
        self.assertFalse(Format("0") == Format("#"))
        for other in ("0", None, 0, Fault("NA")):
            self.assertFalse(Format("0") == other)

    def test_wrong_places(self):
        told = [("x", 0), ("@", 0), ("0x", 1), ("0.", 2), ("0.x", 2), (".0", 0), (",0", 0), ("0,#", 2), ("0#", 1), ("#,,0", 3),
                ("0.,", 2), ("0,.0", 2), ("0.#0", 3), ("0 0", 2), ("0;@", 2), (";;;0", 3), (";;;@@", 4), (";;;;", 3),
                (";;;@;", 4), ("\"", 1), ("\"abc", 4), ("\"abc\"\"", 6), ("\"a\nb\"", 2), ("\"a\u00e9\"", 2), ("0\"", 2),
                ("0.0.0", 3), ("0.0#0", 4), ("#0#", 2), ("0;0;0;\"", 7), ("0;0;0x", 5), ("a", 0), ("\t", 0), ("0;;x", 3),
                ("#,##0,.00", 6), ("$ x", 2), ("0,,,1", 4), ("0e+0", 1), ("0_", 1), ("[0]", 0), ("0\\", 1), (";;;\"x\"@0", 7)]
        for text, at in told:
            self.fails(NotAFormat, {"at": at}, Format, text)
        self.fails(NotAFormat, {"at": 1000}, Format, "\"" + "a" * 999)

    def test_all_short_texts(self):
        for many in range(6):
            for signs in product("#0,.;\"@ ", repeat=many):
                self.check("".join(signs))
        random.seed(71)
        for _ in range(8000):
            self.check("".join(random.choice("##00,,..;;;\"@ x$") for _ in range(random.randint(5, 14))))

    def check(self, text):
        if FORMAT.fullmatch(text):
            self.assertEqual(Format(text).text, text)
        else:
            self.fails(NotAFormat, {"at": place_by_pattern(text)}, Format, text)

    def test_wrong_arguments(self):
        for value in (None, 0, True, 1.5, b"0", ["0"], Ratio(1), "0" * 1001, " " * 1001, "x" * 1001):
            self.bad(value, Format, value)


class Numbers(Case):
    def test_whole_places(self):
        for text, number, expected in (
                ("0", 0, "0"), ("#", 0, ""), ("0", 5, "5"), ("#", 5, "5"), ("000", 5, "005"), ("#00", 5, "05"),
                ("###", 12345, "12345"), ("0", 12345, "12345"), ("#,##0", 0, "0"), ("#,##0", 999, "999"),
                ("#,##0", 1000, "1,000"), ("#,##0", 1234567, "1,234,567"), ("#,###", 0, ""), ("0,0", 5, "05"),
                ("0,000", 5, "0,005"), ("000,000", 12, "000,012"), ("0,0000000", 1, "00,000,001"), ("#,#", 123456, "123,456"),
                ("#0,0", 1234, "1,234"), ("00000", 123456, "123456")):
            self.assertEqual(show(Ratio(number), text), expected)
            if number:
                self.assertEqual(show(Ratio(-number), text), "-" + expected)

    def test_decimals(self):
        for text, number, expected in (
                ("0.00", Ratio(5, 4), "1.25"), ("0.0", Ratio(5, 4), "1.3"), ("0.#", Ratio(3), "3."), ("0.##", Ratio(3, 2), "1.5"),
                ("0.0#", Ratio(3), "3.0"), ("0.00##", Ratio(5, 4), "1.25"), ("0.00##", Ratio(10001, 10000), "1.0001"),
                ("0.00##", Ratio(1001, 1000), "1.001"), ("#.##", Ratio(1, 4), ".25"), ("#.#", Ratio(0), "."),
                ("#.00", Ratio(1, 4), ".25"), ("0.###", Ratio(1, 3), "0.333"), ("0.000", Ratio(2, 3), "0.667"),
                ("0.0###", Ratio(1, 2), "0.5"), ("0.####", Ratio(50001, 100000), "0.5"), ("0.0", Ratio(-1, 100), "0.0"),
                ("#,##0.00", Ratio(123456789, 100), "1,234,567.89"), ("00.0", Ratio(999, 100), "10.0")):
            self.assertEqual(show(number, text), expected)

    def test_half_units(self):
        tiny = Ratio(1, 10 ** 50)
        for whole in (0, 1, 2, 7, 99):
            half = Ratio(2 * whole + 1, 2)
            for number, size in ((half, whole + 1), (half - tiny, whole), (half + tiny, whole + 1)):
                self.assertEqual(show(number, "0"), str(size))
                minus = "-" if size else ""
                self.assertEqual(show(-number, "0"), minus + str(size))
                self.assertEqual(show(number * Ratio(1, 100), "0.00"), f"{size // 100}.{size % 100:02}")
                self.assertEqual(show(number * 1000, "0,"), str(size))
                self.assertEqual(show(number * 1000000, "#,##0,,"), str(size))
        self.assertEqual([show(Ratio(number), "0,") for number in (499, 500, 1499, 1500)], ["0", "1", "1", "2"])
        self.assertEqual(show(Ratio(1234567), "0.0,,"), "1.2")
        self.assertEqual(show(Ratio(1234567), "0.0#,"), "1234.57")

    def test_minus(self):
        self.assertEqual(show(Ratio(-5), "$ 0"), "-$ 5")
        self.assertEqual(show(Ratio(-5), "\"x\""), "x")
        self.assertEqual(show(Ratio(-5), ""), "")
        self.assertEqual(show(Ratio(-1, 3), "$0"), "$0")
        self.assertEqual(show(Ratio(-5), "0;0"), "5")
        self.assertEqual(show(Ratio(-5), "0;"), "")
        self.assertEqual(show(Ratio(-5), "-0"), "--5")
        self.assertEqual(show(Ratio(-5), "0;(0)"), "(5)")

    def test_sections(self):
        text = "\"up \"0;\"down \"0.0;\"nought \"0.00;\"text \"@"
        self.assertEqual([show(Ratio(number), text) for number in (2, -2, 0)], ["up 2", "down 2.0", "nought 0.00"])
        self.assertEqual([show(Ratio(number), "0.0;(0)") for number in (2, -2, 0)], ["2.0", "(2)", "0.0"])
        self.assertEqual([show(Ratio(number), "0;;") for number in (2, -2, 0)], ["2", "", ""])
        self.assertEqual([show(Ratio(number), ";\"n\"") for number in (2, -2, 0)], ["", "n", ""])
        # A number that is rounded to 0 is no 0.
        self.assertEqual([show(Ratio(number, 9), "0;(0);\"z\"") for number in (1, -1, 0)], ["0", "(0)", "z"])
        self.assertEqual(show(Ratio(-1, 9), "0;-0"), "-0")

    def test_literals(self):
        self.assertEqual(show(Ratio(7), "$ (+-:/)0 \"a\"\"b;@#\":"), "$ (+-:/)7 a\"b;@#:")
        self.assertEqual(show(Ratio(7), "\"\"0\"\""), "7")
        self.assertEqual(show(Ratio(7), "\"a\"\"b\""), "a\"b")

    def test_long_ones(self):
        self.assertEqual(show(Ratio(10 ** 1000 - 1), "0"), "9" * 1000)
        self.assertEqual(show(Ratio(10 ** 1000), "0"), Fault("VALUE"))
        self.assertEqual(show(Ratio(1 - 10 ** 1000), "0"), Fault("VALUE"))
        self.assertEqual(show(Ratio(10 ** 2999), "0" + "," * 998), "100000")
        self.assertEqual(show(Ratio(1, 3), "#." + "#" * 998), "." + "3" * 998)
        self.assertEqual(show(Ratio(10 ** 5000), "0"), Fault("VALUE"))
        self.assertEqual(show(Ratio(1), "\"" + "a" * 900 + "\"0"), "a" * 900 + "1")
        self.assertEqual(show(Ratio(5), "#,##" + "0" * 900), Fault("VALUE"))

    def test_random_numbers(self):
        random.seed(72)
        for _ in range(500):
            number = Ratio(random.randint(-10 ** 6, 10 ** 6), random.randint(1, 2000))
            size = abs(fraction(number))
            whole, places, thousands = random.randint(1, 4), random.randint(0, 4), random.randint(0, 2)
            text = "0" * whole + ("." + "0" * places if places else "") + "," * thousands
            units = int(size / 1000 ** thousands * 10 ** places + Fraction(1, 2))
            digits = str(units).zfill(whole + places)
            expected = digits[:-places] + "." + digits[-places:] if places else digits
            minus = "-" if number.sign() < 0 and units else ""
            self.assertEqual(show(number, text), minus + expected)


class OtherValues(Case):
    def test_texts(self):
        for text in ("", "0", "0;0;0", "\"a\""):
            self.assertEqual(show("Abc \"d\"", text), "Abc \"d\"")
            self.assertEqual(show("", text), "")
        self.assertEqual(show("Abc", ";;;@"), "Abc")
        self.assertEqual(show("Abc", ";;;\"<\"@ -"), "<Abc -")
        self.assertEqual(show("Abc", "0;0;0;\"none\""), "none")
        self.assertEqual(show("Abc", ";;;"), "")
        self.assertEqual(show("12", "0.00"), "12")
        self.assertEqual(show("a" * 999, ";;;@ "), "a" * 999 + " ")
        self.assertEqual(show("a" * 1000, ";;;@ "), Fault("VALUE"))
        self.assertEqual(show("a" * 1000, ";;;@"), "a" * 1000)

    def test_truths_blanks_and_faults(self):
        for text in ("0", "\"a\"", ";;;\"x\"@", ""):
            self.assertEqual([show(True, text), show(False, text), show(None, text)], ["TRUE", "FALSE", ""])
            for kind in FAULT_KINDS:
                self.assertEqual(show(Fault(kind), text), Fault(kind))

    def test_strands_and_members(self):
        one = root_strand(UNIT)
        self.assertEqual(show(one * Ratio(1, 2), "0"), "0")
        self.assertEqual(show(one + Ratio(13, 2), "0"), "7")
        self.assertEqual(show(-one - Ratio(13, 2), "0"), "-7")
        self.assertEqual(show(one, "\"up\";\"down\";\"0\""), "up")
        self.assertEqual(show(one - 1, "\"up\";\"down\";\"0\""), "down")
        self.assertEqual(show(root_strand(WIDE), "\"any\""), "any")
        self.assertEqual(show(strand(Curve(X), Span(Ratio(1234, 1000), Ratio(1235, 1000))), "0.00"), "1.23")
        self.fails(Turns, {"poly": 2 * X - 1}, show, one, "0")
        self.fails(Turns, {"poly": X}, show, root_strand(WIDE), "0")
        self.fails(Turns, {"poly": X}, show, root_strand(WIDE), "\"a\";\"b\"")
        root = root_member()
        self.assertEqual([show(root, "0.000"), show(-root, "0.0#"), show(root * 1000000, "#,##0,")],
                         ["1.414", "-1.41", "1,414"])
        self.assertEqual(show(-root, "0;(0.00);"), "(1.41)")

    def test_wrong_arguments(self):
        form = Format("0")
        for value in NO_VALUES:
            self.bad(value, shown, value, form)
            self.bad(value, shown, value, "0")
        for value in ("0", None, 1, Ratio(1), Fault("NA")):
            self.bad(value, shown, Ratio(1), value)
            self.bad(value, shown, Fault("NA"), value)
        self.assertEqual(shown(value=Ratio(1), form=form), "1")


class Bands(Case):
    def told(self, text, shows):
        found = bands(Format(text), shows)
        self.assertIs(type(found), list)
        for band in found:
            self.assertIs(type(band), tuple)
            self.assertEqual([type(mark) for mark in band[2:]], [bool, bool])
        return [tuple(None if end is None else str(end) for end in band[:2]) + band[2:] for band in found]

    def test_known_bands(self):
        self.assertEqual(self.told("0;0", "3"), [("-7/2", "-5/2", False, True), ("5/2", "7/2", True, False)])
        self.assertEqual(self.told("0;0", "3.0"), [])
        self.assertEqual(self.told("0", "3"), [("5/2", "7/2", True, False)])
        self.assertEqual(self.told("0", "-3"), [("-7/2", "-5/2", False, True)])
        self.assertEqual(self.told("0", "0"), [("-1/2", "1/2", False, False)])
        self.assertEqual(self.told("0;0;0", "0"), [("-1/2", "1/2", False, False)])
        self.assertEqual(self.told("0;0;\"z\"", "0"), [("-1/2", "0", False, False), ("0", "1/2", False, False)])
        self.assertEqual(self.told("0;0;\"z\"", "z"), [("0", "0", True, True)])
        self.assertEqual(self.told("0;\"n\"", "0"), [("0", "1/2", True, False)])
        self.assertEqual(self.told("0;\"n\"", "n"), [(None, "0", False, False)])
        self.assertEqual(self.told("\"p\";\"n\"", "p"), [("0", None, True, False)])
        self.assertEqual(self.told("\"p\";\"n\";\"n\"", "n"), [(None, "0", False, True)])
        self.assertEqual(self.told("\"p\";\"n\";\"z\"", "p"), [("0", None, False, False)])
        self.assertEqual(self.told("\"a\"", "a"), [(None, None, False, False)])
        self.assertEqual(self.told("\"a\";\"a\"", "a"), [(None, None, False, False)])
        self.assertEqual(self.told("\"a\";\"a\";\"b\"", "a"), [(None, "0", False, False), ("0", None, False, False)])
        self.assertEqual(self.told("", ""), [(None, None, False, False)])
        self.assertEqual(self.told("#", ""), [("-1/2", "1/2", False, False)])
        self.assertEqual(self.told("0;", ""), [(None, "0", False, False)])
        self.assertEqual(self.told("#;", ""), [(None, "1/2", False, False)])
        self.assertEqual(self.told("0.0", "1.3"), [("5/4", "27/20", True, False)])
        self.assertEqual(self.told("0,", "1"), [("500", "1500", True, False)])
        self.assertEqual(self.told("$ #,##0", "-$ 1,235"), [("-2471/2", "-2469/2", False, True)])
        self.assertEqual(self.told("0;-0", "-3"), [("-7/2", "-5/2", False, True)])
        self.assertEqual(self.told("-0", "-3"), [("5/2", "7/2", True, False)])
        self.assertEqual(self.told("-0", "--3"), [("-7/2", "-5/2", False, True)])
        self.assertEqual(self.told("-0", "-0"), [("-1/2", "1/2", False, False)])
        self.assertEqual(self.told("0;0;0;\"t\"", "t"), [])
        self.assertEqual(self.told("0;\"0\"", "0"), [(None, "1/2", False, False)])
        self.assertEqual(self.told("0;0.0", "0.0"), [("-1/20", "0", False, False)])

    def test_texts_that_are_never_shown(self):
        for text, shows in (("0", ""), ("0", "03"), ("0", "3.0"), ("0", " 3"), ("0", "x"), ("0", "--3"), ("0", "-0"), ("0", "1,000"),
                            ("#,##0", "1000"), ("#,##0", "1,00"), ("00", "3"), ("0.0", "3"), ("0.0#", "3.10"), ("0.0#", "3."),
                            ("\"a\"", "A"), ("\"a\"0", "3"), ("0\"a\"", "3"), ("0.#", "1"), ("0", "\u0663"), ("0", "\u00b2"),
                            ("0;0", "-3"), ("0", "TRUE"), ("0", "3\n"), ("0.0", "1.2.3"), ("#.#", "0.5"), ("0", "+3"),
                            ("0", "9" * 1001), ("0", "\u00e9" * 2000), ("\"aa\"0\"aa\"", "aaa"),
                            ("\"aa\"#\"aa\"", "aaa"), ("\"aa\"#", "a")):
            self.assertEqual(self.told(text, shows), [])
        self.assertEqual(len(self.told("0", "9" * 1000)), 1)

    def test_each_number_is_in_the_bands_of_its_text(self):
        random.seed(73)
        sections = ["0", "#", "0.0", "0.#", "#,##0", "00", "0,", "\"a\"", "", "-0", "(0)", "\"0\"", "#.#", "0.0#", "\"-\"#", "-"]
        numbers = [Ratio(top, 40) for top in range(-90, 91)] + [Ratio(top) for top in (-1500, -1499, -500, 500, 999, 1000)]
        for _ in range(150):
            text = ";".join(random.choice(sections) for _ in range(random.randint(1, 3)))
            form = Format(text)
            shows = [shown(number, form) for number in numbers]
            for told in sorted(set(shows) | {"0", "-0", "1", "", "-", "a"}):
                found = bands(form, told)
                self.check_apart(found)
                for number, show_of in zip(numbers, shows):
                    inside = [band for band in found if self.is_in(number, band)]
                    self.assertEqual(len(inside), int(show_of == told), (text, told, str(number)))

    def is_in(self, number, band):
        low, high, low_in, high_in = band
        above = low is None or number.compare(low) > 0 or (low_in and number == low)
        below = high is None or number.compare(high) < 0 or (high_in and number == high)
        return above and below

    def check_apart(self, found):
        self.assertLessEqual(len(found), 3)
        for band, after in zip(found, found[1:]):
            self.assertLessEqual(band[1].compare(after[0]), 0)
            self.assertFalse(band[1] == after[0] and (band[3] or after[2]))
        for band in found:
            self.assertFalse(band[0] is None and band[2])
            self.assertFalse(band[1] is None and band[3])

    def test_ends(self):
        tiny = Ratio(1, 10 ** 40)
        for text, shows in (("0.00", "1.25"), ("0.00", "-1.25"), ("0,", "7"), ("#,##0.0#", "1,234.5"), ("0;(0)", "(2)"),
                            ("0", "0")):
            form = Format(text)
            for low, high, low_in, high_in in bands(form, shows):
                self.assertEqual([shown(end, form) == shows for end in (low - tiny, low, low + tiny)], [False, low_in, True])
                self.assertEqual([shown(end, form) == shows for end in (high - tiny, high, high + tiny)],
                                 [True, high_in, False])

    def test_wrong_arguments(self):
        for value in ("0", None, 1, Ratio(1)):
            self.bad(value, bands, value, "0")
            self.bad(value, bands, value, 0)
        for value in (None, 1, True, Ratio(1), ["0"], b"0", Fault("NA")):
            self.bad(value, bands, Format("0"), value)
        self.assertEqual(len(bands(form=Format("0"), text="1")), 1)


class NearHalves(Case):
    def test_members_near_half_units(self):
        great = 10 ** 40
        point = Point(great * X * X * 4 - great - 1, 0, 1)
        self.assertEqual(show(root_member(point), "0"), "1")
        self.assertEqual(show(-root_member(point), "0"), "-1")
        point = Point(great * X * X * 4 - great + 1, 0, 1)
        self.assertEqual(show(root_member(point), "0"), "0")
        self.assertEqual(show(-root_member(point), "0"), "0")
