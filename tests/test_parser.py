"""[2], [19], [20], [21], [22], [102]: formula texts of the notation by letters and digits."""

from allinputs.addresses import Address
from allinputs.areas import Area, read_area
from allinputs.errors import NotAFormula, TooMany
from allinputs.parser import read_formula
from allinputs.printer import formula_text
from allinputs.ratios import Ratio
from allinputs.values import FAULT_KINDS, Fault
from tests.helper import Case

ONE, TWO, THREE = [("number", Ratio(number)) for number in (1, 2, 3)]
A1 = ("cell", Address(1, 1))
BLANK = ("blank",)


class Tokens(Case):
    def reads(self, text, formula):
        self.assertEqual(read_formula(text), formula, text)

    def test_numbers(self):
        for text, top, bottom in (("007", 7, 1), ("0.50", 1, 2), ("0", 0, 1), ("0.0", 0, 1), ("12.125", 97, 8),
                                  ("1" * 1999, int("1" * 1999), 1)):
            self.reads("=" + text, ("number", Ratio(top, bottom)))
        for text, at in (("=.5", 1), ("=1.", 3), ("=1.+2", 3), ("=1e5", 2), ("=1.5.2", 4), ("=1 2", 3), ("=1A", 2),
                         ("=1..5", 3), ("=1_", 2), ("=1\u00b2", 2), ("=1\u0661", 2), ("=\u0661", 1),
                         ("=1.\u0661", 3), ("=A\u0661", 2), ("=$A\u0661", 3), ("=1:\u0661", 3)):
            self.fails(NotAFormula, {"at": at}, read_formula, text)

    def test_written_texts(self):
        for text, told in (('""', ""), ('"a"', "a"), ('"a""b"', 'a"b'), ('""""', '"'), ('"=1"', "=1"), ('" "', " "),
                           ('"' + "x" * 1000 + '"', "x" * 1000), ('"' + '""' * 900 + '"', '"' * 900)):
            self.reads("=" + text, ("text", told))
        for text, at in (('="a', 3), ('="', 2), ('="a"b"', 4), ('="a" "b"', 5), ('="a\n"', 3), ('="\u00e4"', 2),
                         ('="' + "x" * 1001 + '"', 1002), ('="' + "x" * 1000, 1002),
                         ('="' + "x" * 1000 + '""', 1003), ('="a""', 5)):
            self.fails(NotAFormula, {"at": at}, read_formula, text)

    def test_faults(self):
        for kind in FAULT_KINDS:
            self.reads("=#" + kind, ("fault", kind))
            self.reads("=#" + kind.lower() + " ", ("fault", kind))
        for text, at in (("=#", 2), ("=#N", 3), ("=#NAM", 5), ("=#NAX", 4), ("=#NAMEX", 6), ("=#X", 2), ("=# NA", 2),
                         ("=#DIVV", 5), ("=#VAL+1", 5), ("=#REF1", 5), ("=#R\u0130NG", 3)):
            self.fails(NotAFormula, {"at": at}, read_formula, text)

    def test_cells_and_spills(self):
        self.reads("=a1", A1)
        self.reads("=$B$7", ("cell", Address(7, 2, fixed_row=True, fixed_column=True)))
        self.reads("=$b7", ("cell", Address(7, 2, fixed_column=True)))
        self.reads("=B$7#", ("spill", Address(7, 2, fixed_row=True)))
        self.reads("=Tax9!ZZZ1000000", ("cell", Address(1000000, 18278, sheet="Tax9")))
        self.reads("=A1!A1#", ("spill", Address(1, 1, sheet="A1")))
        self.reads("=true!A1", ("cell", Address(1, 1, sheet="true")))
        self.reads("=R2C3!A1", ("cell", Address(1, 1, sheet="R2C3")))
        self.assertEqual(read_formula("=tAx!A1")[1].sheet, "tAx")
        for text, at in (("=A0", 3), ("=A0+1", 3), ("=A01", 4), ("=A1000001", 9), ("=$A0", 3), ("=$ABCD", 5), ("=$A", 3),
                         ("=$", 2), ("=$$A1", 2), ("=A$", 3), ("=A$0", 3), ("=A$1x", 4), ("=$A1000001", 9),
                         ("=A1$", 3), ("=ABCD$1", 5), ("=A1 #", 4), ("=A1##", 4), ("=A1#:B2", 4), ("=$1", 3),
                         ("=$0", 2), ("=$A1(", 4), ("=A!", 3), ("=A!A", 4), ("=A!x", 4), ("=A!rate", 6), ("=A! B1", 3),
                         ("=A!1", 4), ("=A!B!C1", 4), ("=A!0", 3), ("=abcdefghijklm!A1", 14), ("=a_b!A1", 4),
                         ("=_!A1", 2), ("=A!\"x\"", 3), ("=R2C3", 5), ("=r", 2), ("=RC+1", 3), ("=C5", None),
                         ("=ABC0", 5), ("=A!SUM(1)", 6)):
            if at is not None:
                self.fails(NotAFormula, {"at": at}, read_formula, text)

    def test_areas(self):
        for text in ("A1:B2", "$A$1:B2", "tax!A1:$B$2", "A:C", "$A:$C", "2:5", "$2:$5", "tax!A:A", "tax!7:$7"):
            self.reads("=" + text, ("area", read_area(text)))
        self.reads("=b2:a1", ("area", read_area("A1:B2")))
        self.reads("=A1:A1", ("area", Area(Address(1, 1), Address(1, 1))))
        self.reads("=R:C", ("area", read_area("C:R")))
        self.reads("=rc:c", ("area", read_area("C:RC")))
        for text, at in (("=1:1000001", 9), ("=A1:", 4), ("=A1:B", 5), ("=A1:B0", 5), ("=A:1", 3), ("=A:B2", 4),
                         ("=1:A", 3), ("=A1:2", 4), ("=A1:B2:C3", 6), ("=A1: B2", 4), ("=A1 :B2", 4), ("=A:ABCD", 6),
                         ("=01:2", 3), ("=1:02", 3), ("=1000001:2", 8), ("=1.5:2", 4), ("=A1:t!B2", 5), ("=A1:B2#", 6),
                         ("=rate:B2", 5), ("=A:", 3), ("=2:", 3), ("=2:$", 4), ("=A:$", 4), ("=$A:$1", 5),
                         ("=A1:B1000001", 11), ("=A!2:5(", 6), ("=A0:B1", 3), ("=A:B(", 4), ("=$2:A", 4)):
            self.fails(NotAFormula, {"at": at}, read_formula, text)

    def test_words(self):
        for text, name in (("rate", "rate"), ("Rate_2.x", "rate_2.x"), ("_", "_"), ("_A1", "_a1"), ("A1.5", "a1.5"),
                           ("A0x", "a0x"), ("abcd1", "abcd1"), ("A1_", "a1_"), ("truer", "truer"), ("x.", "x."),
                           ("A", "a"), ("RCX", "rcx"), ("R1C2R3", "r1c2r3"), ("CR", "cr"), ("a" * 1999, "a" * 1999)):
            self.reads("=" + text, ("name", name))
        for text in ("TRUE", "true", "tRuE"):
            self.reads("=" + text, ("truth", True))
        self.reads("=False", ("truth", False))
        self.reads("=r1", ("cell", Address(1, 18)))
        self.reads("=c007(1)", ("call", "C007", (ONE,)))
        for text, at in (("=a b", 3), ("=a.b!A1", 4), ("=rate$1", 5), ("=rate#", 5), ("=a\u00e4", 2), ("=a'b", 2),
                         ("=\u00e4", 1), ("=.a", 1), ("=TRUE#", 5), ("=TRUE1", None)):
            if at is not None:
                self.fails(NotAFormula, {"at": at}, read_formula, text)
        for text in ("=R", "=C", "=RC", "=R2", "=C3", "=R2C3", "=rc9", "=A0", "=AB00", "=A1000001"):
            if text not in ("=R2", "=C3", "=rc9"):
                self.fails(NotAFormula, {"at": len(text)}, read_formula, text)
            self.assertEqual(read_formula(text + "(1)"), ("call", text[1:].upper(), (ONE,)))
            self.assertEqual(read_formula(text + "!A1")[1].sheet, text[1:])


class Structure(Case):
    def test_calls(self):
        for text, formula in (
                ("=F()", ("call", "F", ())), ("=f( )", ("call", "F", ())), ("=F(,)", ("call", "F", (BLANK, BLANK))),
                ("=F(1,)", ("call", "F", (ONE, BLANK))), ("=F( ,1)", ("call", "F", (BLANK, ONE))),
                ("=F(1, ,2)", ("call", "F", (ONE, BLANK, TWO))), ("=F(G(1),-2)", (
                    "call", "F", (("call", "G", (ONE,)), ("minus", TWO)))), ("=_a.b(1)", ("call", "_A.B", (ONE,))),
                ("=TRUE(1)", ("call", "TRUE", (ONE,))), ("=A1(1)", ("call", "A1", (ONE,))),
                ("=F((1))", ("call", "F", (ONE,))), ("=F(())", None)):
            if formula is None:
                self.fails(NotAFormula, {"at": 4}, read_formula, text)
            else:
                self.assertEqual(read_formula(text), formula, text)
        for text, at in (("=F(", 3), ("=F(1", 4), ("=F(1,", 5), ("=F (1)", 3), ("=F(1;2)", 4), ("=F(-)", 4),
                         ("=F(1+)", 5), ("=F(1+,2)", 5), ("=F(1))", 5), ("=F(1}", 4), ("=F)", 2), ("=(,)", 2),
                         ("=(1,2)", 3), ("=()", 2), ("=1,2", 2), ("=F(1 2)", 5)):
            self.fails(NotAFormula, {"at": at}, read_formula, text)

    def test_arrays(self):
        for text, rows in (
                ("{1}", ((Ratio(1),),)), ("{1,-2;TRUE,#NA}", ((Ratio(1), Ratio(-2)), (True, Fault("NA")))),
                ("{ - 0.50 ; \"a\"\"b\" }", ((Ratio(-1, 2),), ('a"b',))), ("{false}", ((False,),)),
                ("{#name,#NA}", ((Fault("NAME"), Fault("NA")),)), ("{-0}", ((Ratio(0),),)), ("{\"\"}", (("",),))):
            formula = read_formula("=" + text)
            self.assertEqual(formula, ("array", rows), text)
            self.assertIs(type(formula[1][0]), tuple)
        for text, at in (("={", 2), ("={}", 2), ("={1", 3), ("={1,}", 4), ("={1;}", 4), ("={,1}", 2), ("={1,2;3}", 7),
                         ("={1;2,3}", 5), ("={1;2;", 6), ("={A1}", 2), ("={+1}", 2), ("={--1}", 3), ("={(1)}", 2),
                         ("={1+2}", 3), ("={TR", 4), ("={TRX}", 4), ("={TRUEX}", 6), ("={TRUE(1)}", 6), ("={x}", 2),
                         ("={1:2}", 3), ("={1,2", 5), ("={1.}", 4), ("={-\"a\"}", 3), ("={-TRUE}", 3), ("={1)", 3),
                         ("={{1}}", 2), ("={1}{2}", 4), ("={1}2", 4), ("={1,2;3,4,5}", 9), ("={#NA1}", 5), ("={-}", 3)):
            self.fails(NotAFormula, {"at": at}, read_formula, text)

    def test_operators(self):
        groups = (("=", "<>", "<", ">", "<=", ">="), ("&",), ("+", "-"), ("*", "/"), ("^",))
        for level, signs in enumerate(groups):
            for sign in signs:
                self.assertEqual(read_formula(f"=1{sign}2"), (sign, ONE, TWO))
                for step, others in enumerate(groups):
                    for other in others:
                        text = f"=1 {sign} 2{other}3"
                        if step > level:
                            self.assertEqual(read_formula(text), (sign, ONE, (other, TWO, THREE)), text)
                        else:
                            self.assertEqual(read_formula(text), (other, (sign, ONE, TWO), THREE), text)
                self.assertEqual(read_formula(f"=-1{sign}+2"), (sign, ("minus", ONE), ("plus", TWO)))
                self.assertEqual(read_formula(f"=1{sign}(2{sign}3)"), (sign, ONE, (sign, TWO, THREE)))
        self.assertEqual(read_formula("=-2^2"), ("^", ("minus", TWO), TWO))
        self.assertEqual(read_formula("=2^-1"), ("^", TWO, ("minus", ONE)))
        self.assertEqual(read_formula("=- + -1"), ("minus", ("plus", ("minus", ONE))))
        self.assertEqual(read_formula("=-(1)"), ("minus", ONE))
        self.assertEqual(read_formula("=-(1+2)"), ("minus", ("+", ONE, TWO)))
        for text, at in (("=", 1), ("=+", 2), ("=1+", 3), ("=*1", 1), ("=1**2", 3), ("=1=<2", 3), ("=1>>2", 3),
                         ("=1< >2", 4), ("=1> =2", 4), ("=1<>=2", 4), ("=1!", 2), ("=1#", 2), ("=1%", 2), ("=1;2", 2),
                         ("==1", 1), ("=(1", 3), ("=1)", 2), ("=(1)2", 4), ("=(1)(2)", 4), ("=1\t", 2), ("=\n1", 1)):
            self.fails(NotAFormula, {"at": at}, read_formula, text)

    def test_spaces(self):
        self.assertEqual(read_formula("=  - a1 ^ 2  &  \"x\" "), ("&", ("^", ("minus", A1), TWO), ("text", "x")))
        self.assertEqual(read_formula("= F( A1 , ( 1 ) ) "), ("call", "F", (A1, ONE)))
        for text, at in (("", 0), (" =1", 0), ("1", 0), ("x=1", 0), ("=", 1), ("=   ", 4), ("\n", 0)):
            self.fails(NotAFormula, {"at": at}, read_formula, text)

    def test_no_lists_within(self):
        def check(formula):
            self.assertIs(type(formula), tuple)
            for part in formula:
                if isinstance(part, tuple) and part and formula[0] != "array":
                    check(part) if isinstance(part[0], str) else [check(one) for one in part]
        check(read_formula("=-F(1,{1},A1:B2)+(2)&x"))


class Bounds(Case):
    def test_heights(self):
        for text in ("=" + "1+" * 59 + "1", "=" + "-" * 59 + "1", "=" + "-" * 58 + "A1%2".replace("%", "+")):
            self.assertEqual(read_formula(formula_text(read_formula(text))), read_formula(text))
        for text in ("=" + "1+" * 60 + "1", "=" + "-" * 60 + "1", "=" + "-" * 1900 + "1", "=" + "1+" * 999 + "1",
                     "=" + "F(" * 60 + "1" + ")" * 60, "=" + "1^" * 999 + "1"):
            self.fails(TooMany, {"most": 60}, read_formula, text)
        self.assertEqual(read_formula("=" + "F(" * 60 + ")" * 60)[:2], ("call", "F"))
        self.assertEqual(read_formula("=" + "(" * 60 + "1" + ")" * 60), ONE)
        # What is no formula of any height is wrong ahead of what is too high.
        self.fails(NotAFormula, {"at": 1901}, read_formula, "=" + "-" * 1900)
        self.fails(NotAFormula, {"at": 122}, read_formula, "=" + "1+" * 60 + "1)")

    def test_brackets(self):
        for text in ("=" + "(" * 61 + "1" + ")" * 61, "(" * 61, "=" + "F(" * 61, "={" + "(" * 60, "x" + "{" * 61,
                     "=)" + "(" * 62, "=\"" + ")" * 70 + "}\"" + "(" * 61, "=\"" + "(" * 70 + "\"" + "(" * 61, "(" * 61 + "\x00"):
            self.fails(TooMany, {"most": 60}, read_formula, text)
        self.assertEqual(read_formula("=\"" + "(" * 70 + "\""), ("text", "(" * 70))
        for text, at in (("=" + "(" * 60, 61), ("=\"" + "(" * 99, 101), ("=)" + "(" * 61, 1), ("(" * 60, 0),
                         ("=\"a" + "(" * 70 + "\"\"" + "(" * 70, 145)):
            self.fails(NotAFormula, {"at": at}, read_formula, text)
        self.assertEqual(read_formula("=" + "(1)+" * 40 + "(2)")[0], "+")

    def test_wrong_arguments(self):
        for value in (None, 1, True, ["=1"], b"=1", ("=1",), "=" + "1" * 2000, "x" * 2001):
            self.bad(value, read_formula, value)
        self.assertEqual(read_formula(text="=" + "1" * 1999)[0], "number")
