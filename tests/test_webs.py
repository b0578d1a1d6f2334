"""[2], [41], [44], [45], [112], [114]: what formulas see, reach, and hang on."""

from allinputs.errors import NotAName, Unknown
from allinputs.spills import reach_at, spill_area, spilled_from
from allinputs.webs import fed_by, hangs_on, rings, seen_by
from tests.books import BookCase, book_of


def short(places):
    return " ".join(place.removeprefix("Sheet1!") for place in places)


class Webs(BookCase):
    def test_seen_by(self):
        book = book_of({"C1": "=B2+sheet1!$B$2+A1:B2+B:C+TAX!A1+none!A1+A1#+rate+2:$3+1:1000000+B1:C1000000+A4:ZZZ5"
                        "+IF(TRUE,1,D9)+C1:A1+A2:A3+A2:A2", "D1": "5", "E1": "=rate", "E2": "=rate+F1"},
                       {"rate": "A7+other+rate", "other": "SUM(tax!B:A)"}, ("Tax",))
        self.assertEqual(seen_by(book, "C1"), (
            "Sheet1!A1", "Sheet1!A1:C1", "Sheet1!A1:B2", "Sheet1!A:ZZZ", "Sheet1!B:C", "Sheet1!A2", "Sheet1!A2:A3",
            "Sheet1!2:3", "Sheet1!B2", "Sheet1!4:5", "Sheet1!A7", "Sheet1!D9", "Tax!A1", "Tax!A:B"))
        self.assertEqual(seen_by(book, "E1"), ("Sheet1!A7", "Tax!A:B"))
        self.assertEqual(seen_by(book, "E2"), ("Sheet1!F1", "Sheet1!A7", "Tax!A:B"))
        for place in ("D1", "Z9"):
            self.assertEqual(seen_by(book, place), ())
        self.assertEqual(seen_by(book=book, place="tax!A1"), ())

    def test_hangs_on_what_is_seen(self):
        book = book_of({"A1": "=1", "A2": "=A1+B1", "A3": "=SUM(A:A)", "B1": "5", "Tax!A1": "=Sheet1!A2+rate", "A9": "=gone"},
                       {"rate": "Sheet1!A3"}, ("Tax",))
        for place, told in (("A1", ""), ("A2", "A1"), ("A3", "A1 A2 A3 A9"), ("Tax!A1", "A2 A3"), ("B1", ""), ("Z1", ""),
                            ("A9", "")):
            self.assertEqual(short(hangs_on(book, place)), told)
        for place, told in (("A1", "A2 A3"), ("A2", "A3 Tax!A1"), ("B1", "A2"), ("A3", "A3 Tax!A1"), ("A5", "A3"), ("C1", "")):
            self.assertEqual(short(fed_by(book, place)), told)
        self.assertEqual(hangs_on(book=book, place="A2"), ("Sheet1!A1",))
        self.assertEqual(fed_by(book=book, place="B1"), ("Sheet1!A2",))

    def test_hangs_on_through_reaches(self):
        # Through a cell that holds nothing within a reach, whether anything is spilled into it or not.
        book = book_of({"A1": "=SEQUENCE(3)", "C1": "=A3", "C2": "=A4", "C3": "=A2"})
        self.assertEqual([short(hangs_on(book, place)) for place in ("C1", "C2", "C3")], ["A1", "", "A1"])
        self.assertEqual(short(fed_by(book, "A1")), "C1 C3")
        self.assertEqual(short(fed_by(book, "A3")), "C1")
        book.put("A2", "x")
        self.assertEqual([short(hangs_on(book, place)) for place in ("C1", "C2", "C3")], ["A1", "", ""])
        # Through reaches that share a cell that holds nothing: the formula behind hangs on that ahead.
        book = book_of({"A1": "=SEQUENCE(3)", "A2": "=SEQUENCE(2,2)"})
        self.assertEqual((short(hangs_on(book, "A1")), short(hangs_on(book, "A2"))), ("", "A1"))
        self.assertEqual((short(fed_by(book, "A1")), short(fed_by(book, "A2"))), ("A2", ""))
        book.put("A3", "x")
        self.assertEqual(short(hangs_on(book, "A2")), "")
        book = book_of({"A1": "=SEQUENCE(3)", "Tax!A2": "=SEQUENCE(2,2)"}, sheets=("Tax",))
        self.assertEqual(short(hangs_on(book, "Tax!A2")), "")
        # A reach that is not known by what is written.
        book = book_of({"A1": "=SEQUENCE(B1)", "B1": "2", "C1": "=A10000", "C2": "=A10001", "C3": "=SUM(A:A)"})
        self.assertEqual([short(hangs_on(book, place)) for place in ("C1", "C2", "C3")], ["A1", "", "A1"])
        # A formula that sees a cell of its own reach.
        book = book_of({"A1": "=A2:A3", "C1": "=C1:C2"})
        self.assertEqual((hangs_on(book, "A1"), hangs_on(book, "C1")), (("Sheet1!A1",), ("Sheet1!C1",)))
        self.values(book, {"A1": "#RING", "A2": None, "C1": "#RING"})
        # Great areas and reaches.
        book = book_of({"A1": "=SEQUENCE(B1,B1)", "ZZ9000": "=SEQUENCE(100,100)", "C1": "=SUM(ZZ9050:AAA9200)",
                        "C2": "=SUM(D20000:Z20001)"})
        self.assertEqual(short(hangs_on(book, "ZZ9000")), "A1")
        self.assertEqual(short(hangs_on(book, "C1")), "A1 ZZ9000")
        self.assertEqual(short(hangs_on(book, "C2")), "")

    def test_rings(self):
        book = book_of({"A1": "=B1", "B1": "=C1+1", "C1": "=A1", "D1": "=A1", "E1": "=E1", "F1": "=E1+D1", "G1": "=G2",
                        "G2": "=G1", "H1": "=IF(TRUE,5,H1)", "I1": "=I2", "I2": "=J1", "Tax!A1": "=Tax!A2",
                        "Tax!A2": "=A1"}, sheets=("Tax",))
        self.assertEqual(rings(book), (
            ("Sheet1!A1", "Sheet1!B1", "Sheet1!C1"), ("Sheet1!E1",), ("Sheet1!G1", "Sheet1!G2"), ("Sheet1!H1",),
            ("Tax!A1", "Tax!A2")))
        self.values(book, {"A1": "#RING", "B1": "#RING", "D1": "#RING", "F1": "#RING", "H1": "#RING", "I1": 0})
        self.assertEqual(rings(book=book_of({"A1": "=B1"})), ())
        self.values(book_of({"A1": "=A1", "B1": "=IFERROR(A1,7)"}), {"A1": "#RING", "B1": 7})
        # By spills: two formulas each of which sees a cell in the other one's reach.
        book = book_of({"A1": "=SEQUENCE(2)+D2", "D1": "=SEQUENCE(2)+A2"})
        self.assertEqual(rings(book), (("Sheet1!A1", "Sheet1!D1"),))
        self.values(book, {"A1": "#RING", "A2": None, "D2": None})

    def test_wrong_arguments(self):
        book = book_of({"A1": "=1"})
        for call in (seen_by, hangs_on, fed_by, reach_at, spill_area, spilled_from):
            for value in (None, 1, "book", [], {}):
                self.bad(value, call, value, 1)
            for value in (None, 1, True, ["A1"]):
                self.bad(value, call, book, value)
            for place in ("", "A", "A0", "A1:B2", "A1#"):
                self.fails(NotAName, {"name": place}, call, book, place)
            self.fails(Unknown, {"name": "tax"}, call, book, "tax!A1")
        for value in (None, 1, "book"):
            self.bad(value, rings, value)


class Reaches(BookCase):
    def test_by_what_is_written(self):
        cells = {"B9": "=SEQUENCE(4,5)", "B8": "7"}
        names = {"area.x": "A1:C2", "deep.x": "area.x+SEQUENCE(7)", "spill.x": "B9#"}
        for text, size in (
                ("=1", (1, 1)), ("=A1", (1, 1)), ("=A1:C2", (2, 3)), ("=none!A1:C2", (2, 3)), ("=A:B", (10000, 2)),
                ("=2:3", (2, 10000)), ("=A1:A10001", (10000, 1)), ("=B9#", (4, 5)), ("=B8#", (1, 1)), ("=Z1#", (1, 1)),
                ("=none!B9#", (1, 1)), ("={1,2;3,4;5,6}", (3, 2)), ("=area.x", (2, 3)), ("=deep.x", (7, 3)), ("=gone", (1, 1)),
                ("=spill.x", (4, 5)), ("=A1:A3+A1:C1", (3, 3)), ("=-A1:A3", (3, 1)), ("=+A1:A3", (3, 1)), ("=A1:A3=1", (3, 1)),
                ("=SUM(A1:C9)", (1, 1)), ("=LEFT(A1:C2)", (2, 3)), ("=IF(A1,A1:A5,A1:C1)", (5, 3)), ("=COUNTIF(A1:A9,A1:A2)", (2, 1)),
                ("=SORT(A1:C5)", (5, 3)), ("=SORT(A1:C5,A1:A9)", (9, 3)), ("=UNIQUE(A1:C5)", (5, 3)),
                ("=FILTER(A1:C5,A1:A5,A1:Z1)", (5, 26)), ("=INDEX(A1:C5,1)", (5, 3)), ("=XLOOKUP(1,A1:A5,B1:D5)", (5, 3)),
                ("=XLOOKUP(A1:A7,A1:A5,B1:D5,E1:K1)", (7, 7)), ("=TRANSPOSE(A1:C5)", (3, 5)), ("=MMULT(A1:C5,A1:B3)", (5, 2)),
                ("=ROW(A1:C5)", (5, 1)), ("=COLUMN(A1:C5)", (1, 3)), ("=ROW()", (1, 1)), ("=COLUMN()", (1, 1)),
                ("=SEQUENCE(3)", (3, 1)), ("=SEQUENCE(3,4)", (3, 4)), ("=SEQUENCE(2.9,0)", (2, 1)), ("=SEQUENCE(A1)", (10000, 1)),
                ("=SEQUENCE(3,)", (3, 10000)), ("=SEQUENCE(-3)", (10000, 1)), ("=SEQUENCE(+3)", (10000, 1)),
                ("=SEQUENCE(,3)", (10000, 3)), ("=SEQUENCE(20000,20000)", (10000, 10000)), ("=SEQUENCE(3,1,A1:A5)", (5, 1)),
                ("=SEQUENCE((3))", (3, 1)), ("=ABS(A1:A3,1)", (1, 1)), ("=FOO(A1:A3)", (1, 1)), ("=MATCH(A1:A3,B1:B9)", (3, 1)),
                ("=VLOOKUP(A1:A3,B1:C9,{1,2})", (3, 2)), ("=SUM(A1:A3)+A1:B1", (1, 2)), ("=IFERROR(A1:A3,)", (3, 1)),
                ("=SWITCH(A1,1,A1:A3,A1:C1)", (3, 3)), ("=CHOOSE(1,A1:A3,A1:C1)", (3, 3)), ("=TEXTJOIN(A1:A2,TRUE,A1:C9)", (2, 1)),
                ("=TRANSPOSE(B9#)", (5, 4)), ("=TRANSPOSE(SEQUENCE(3))*{1;2}", (2, 3))):
            book = book_of(dict(cells, Z20=text), names)
            self.assertEqual(reach_at(book, "Z20"), size, text)
        self.assertEqual(reach_at(book, "B8"), (1, 1))
        self.assertEqual(reach_at(book=book, place="Q1"), (1, 1))
        self.assertEqual(reach_at(book_of({"ZZZ1000000": "=A1:B2"}), "ZZZ1000000"), (2, 2))

    def test_that_lead_back_to_themselves(self):
        book = book_of({"A1": "=B1#+{1;2}", "B1": "=TRANSPOSE(C1#)", "C1": "=A1#+{1,2,3}", "D1": "=D1#"})
        for place, size in (("A1", (3, 3)), ("B1", (3, 3)), ("C1", (3, 3)), ("D1", (1, 1))):
            self.assertEqual(reach_at(book, place), size)
        book = book_of({"A1": "=one.x", "A2": "=two.x", "A3": "=me.x"}, {"one.x": "two.x+{1;2}", "two.x": "TRANSPOSE(one.x)",
                                                                         "me.x": "me.x&A1:C1"})
        for place, size in (("A1", (2, 2)), ("A2", (2, 2)), ("A3", (1, 3))):
            self.assertEqual(reach_at(book, place), size)
        # What a spill reference reaches follows a change of the formula in its cell.
        book = book_of({"A1": "={1,2}", "C1": "=A1#", "E1": "=C1#", "G1": "=last.x"}, {"last.x": "E1#"})
        self.assertEqual(reach_at(book, "G1"), (1, 2))
        book.put("A1", "={1;2;3}")
        self.assertEqual([reach_at(book, place) for place in ("C1", "E1", "G1")], [(3, 1)] * 3)
        book.put("C1", "5")
        self.assertEqual([reach_at(book, place) for place in ("E1", "G1")], [(1, 1)] * 2)

    def test_chains_are_followed_either_way(self):
        book = book_of({f"A{row}": f"=A{row + 1}#" for row in range(1, 300)})
        book.put("A300", "={1,2}")
        self.assertEqual(reach_at(book, "A1"), (1, 2))
        book = book_of({f"A{row}": f"=A{row - 1}#" for row in range(2, 300)})
        book.put("A1", "={1,2}")
        self.assertEqual(reach_at(book, "A299"), (1, 2))
