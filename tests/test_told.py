"""[58] to [61], [119], [121]: what the cells of a book are for all numbers in one cell."""

import random

from allinputs.book import Book
from allinputs.curves import Curve
from allinputs.errors import NotAName, NotTold, SheetError, TooHigh, Unknown
from allinputs.points import isolate
from allinputs.ratios import Ratio
from allinputs.rowparts import Edge, Piece
from allinputs.spans import Span
from allinputs.told import Told
from allinputs.values import Fault
from allinputs.working import last_worked
from tests.books import book_of
from tests.helper import NO_RATIOS, ROOT, X
from tests.rows import RowCase, row_text, told_of

CELLS = {
    "B1": "=IF(A1>0,1/A1,A1*A1-2)", "B2": "=INT(A1/2)", "B3": "=SUM(B1:B2,A1)", "B4": "=MAX(A1,B1)", "B5": "=B1/(A1-3)",
    "C1": "=IFERROR(B5,\"none\")", "C2": "=SORT(B1:B4)", "D1": "=SEQUENCE(A1,2,A1)", "F1": "=COUNT(D:D)", "F2": "=D1#",
    "G1": "=MATCH(A1,{1,2,4})", "G2": "=A1^2-A1", "G3": "=MOD(A1,2)", "G4": "=ROUND(A1,0)", "G5": "=COUNTIF(B1:B4,\">1\")",
    "I1": "=ISNUMBER(C3)", "I2": "=rate+1", "I3": "=XLOOKUP(A1,{1,2,3},{\"a\",\"b\",\"c\"},\"no\",-1)",
    "I4": "=MEDIAN(A1,B1,2)", "I5": "=AND(A1>1,A1<=3)",
}


class Values(RowCase):
    def test_values_at_drawn_ratios(self):
        book = book_of(CELLS, names={"rate": "A1*3"})
        chance = random.Random(5)
        ratios = [Ratio(chance.randint(-30, 40), chance.choice([1, 2, 3, 7])) for _ in range(25)] + [Ratio(0), Ratio(3)]
        ratios = [ratio for ratio in ratios if -5 <= ratio.floor() < 6]
        cells = list(CELLS) + ["A1", "A2", "C3", "C5", "D2", "E2", "D9", "G9"]
        self.agrees(book, "A1", cells, ratios, -5, 6)

    def test_values_where_other_cells_are_free(self):
        book = book_of({**CELLS, "A1": "2"}, names={"rate": "A1*3"})
        ratios = [Ratio(top, bottom) for top in (-7, -1, 0, 2, 5) for bottom in (1, 2)]
        for free in ("B2", "D2", "D1", "G2", "C2", "Z9"):
            self.agrees(book, free, list(CELLS) + ["D2", "E2", "D3", "C4", free], ratios)

    def test_values_of_whatever_size(self):
        told = told_of({"B1": "=A1^4", "B2": "=IF(A1>1,\"big\",A1)"})
        self.assertEqual(told.value_at("B1", Ratio(10 ** 299)), Ratio(10 ** 1196))
        self.assertEqual(told.value_at("B2", 10 ** 299), "big")
        self.assertEqual(told.value_at("B2", 1), Ratio(1))
        self.assertEqual(told.value_at("A1", Ratio(1, 3)), Ratio(1, 3))
        self.assertIsNone(told.value_at("Z1", 5))

    def test_ends_of_the_range(self):
        told = told_of({"B1": "=IF(A1=2,9,A1)", "B2": "=1/(A1-5)"}, low=2, high=5)
        self.row(told, "B1", "2: 9 | (2,5): x | 5: 5")
        self.row(told, "B2", "2: -1/3 | (2,5): 1/(x - 5) | 5: #DIV")
        self.assertEqual([str(told.value_at("B1", ratio)) for ratio in (2, 3, 5)], ["9", "3", "5"])
        self.row(told_of({"B1": "=A1*A1"}, low=None, high=Ratio(-1, 2)), "B1", "(,-1/2): x^2 | -1/2: 1/4")
        self.row(told_of({"B1": "=A1*A1"}, low=Ratio(-1, 2)), "B1", "-1/2: 1/4 | (-1/2,): x^2")

    def test_ends_of_the_range_at_roots(self):
        told = told_of({"B1": "=IF(A1*A1-1<0,1,2)", "B2": "=1/(A1*A1-1)", "B3": "=IF(A1>1,1,A1)"}, low=-1, high=1)
        self.row(told, "B1", "-1: 2 | (-1,1): 1 | 1: 2")
        self.row(told, "B2", "-1: #DIV | (-1,1): 1/(x^2 - 1) | 1: #DIV")
        self.row(told, "B3", "-1: -1 | (-1,1): x | 1: 1")


class FreeCells(RowCase):
    def test_the_free_cell_itself(self):
        told = told_of({"A1": "=B1+1", "B1": "=A1"})
        self.row(told, "A1", "(,): x")
        self.row(told, "B1", "(,): x")
        self.row(told_of({}, low=0, high=1), "A1", "0: 0 | (0,1): x | 1: 1")

    def test_it_held_something(self):
        for text in ("", "7", "'seven", "TRUE", "=B9", "=1/0", "=SEQUENCE(3)"):
            told = told_of({"A1": text, "B1": "=A1*2", "B2": "=ISBLANK(A2)", "B3": "=COUNT(A:A)"})
            self.row(told, "B1", "(,): 2x")
            self.row(told, "B2", "(,): True")
            self.row(told, "B3", "(,): 1")

    def test_a_formula_would_spill_into_it(self):
        cells = {"A1": "=SEQUENCE(3)", "B1": "=COUNT(A1:A3)", "B2": "=SUM(A1#)"}
        told = told_of(cells, free="A2")
        self.row(told, "A1", "(,): #SPILL")
        self.row(told, "A2", "(,): x")
        self.row(told, "A3", "(,): None")
        self.row(told, "B1", "(,): 1")
        self.row(told, "B2", "(,): #SPILL")
        other = told_of(cells, free="C2")
        self.row(other, "A3", "(,): 3")

    def test_rings_that_go_away_and_stay(self):
        cells = {"A1": "=B1+1", "B1": "=A1/2", "C1": "=D1", "D1": "=C1", "E1": "=IF(ISERROR(C1),A1,5)", "E2": "=B1&C1"}
        told = told_of(cells)
        self.row(told, "B1", "(,): x/2")
        self.row(told, "C1", "(,): #RING")
        self.row(told, "E1", "(,): x")
        self.row(told_of(cells, free="Z1"), "A1", "(,): #RING")
        self.row(told_of(cells, free="D1"), "C1", "(,): x")

    def test_the_book_goes_its_own_way(self):
        book = book_of({"A1": "1", "B1": "=A1+1", "B2": "=A2+A1"})
        told = Told(book, "A1")
        book.put("B1", "=A1+2")
        book.put("A2", 5)
        book.rename_sheet("Sheet1", "Other")
        self.row(told, "B1", "(,): x + 1")
        self.row(told, "Sheet1!B2", "(,): x")
        self.assertEqual(told.place, "Sheet1!A1")
        self.assertEqual(str(book.value_of("B1")), "3")

    def test_nothing_is_changed_in_the_book(self):
        book = book_of({"A1": "1", "B1": "=A1+1"})
        before, worked = book.copied(), last_worked(book)
        Told(book, "A1", 0, 5).pieces("B1")
        self.assertTrue(book == before)
        self.assertEqual(last_worked(book), worked)
        self.assertEqual(str(book.value_of("B1")), "2")

    def test_attributes(self):
        book = book_of({}, sheets=("Tax",))
        told = Told(book, "tax!$b$2", low=0, high=Ratio(5, 2))
        self.assertEqual((told.place, told.low, told.high), ("Tax!B2", Ratio(0), Ratio(5, 2)))
        told = Told(place="c1", book=book)
        self.assertEqual((told.place, told.low, told.high), ("Sheet1!C1", None, None))

    def test_equal_calls_tell_equal_rows(self):
        told = told_of(CELLS, low=-5, high=5, names={"rate": "A1"})
        for cell in CELLS:
            self.assertEqual(told.pieces(cell), told.pieces(cell=cell))
        self.assertEqual(told.value_at("B1", 2), told.value_at(ratio=Ratio(2), cell="B1"))


class Rows(RowCase):
    def test_no_edge_without_need(self):
        told = told_of({
            "B1": "=IF(A1>0,A1,A1)", "B2": "=IF(A1=0,0,A1)", "B3": "=IF(A1=0,1,A1)", "B4": "=A1*A1/A1",
            "B5": "=IF(A1>3,\"a\",\"a\")", "B6": "=IF(A1>3,\"a\",\"A\")", "B7": "=IF(A1=3,TRUE,1)=1", "B8": "=INT(A1)*0+5",
            "B9": "=IF(A1<2,NA(),IF(A1=2,NA(),#NA))",
        }, low=-10, high=10)
        self.row(told, "B1", "-10: -10 | (-10,10): x | 10: 10")
        self.row(told, "B2", "-10: -10 | (-10,10): x | 10: 10")
        self.row(told, "B3", "-10: -10 | (-10,0): x | 0: 1 | (0,10): x | 10: 10")
        self.row(told, "B4", "-10: -10 | (-10,0): x | 0: #DIV | (0,10): x | 10: 10")
        self.row(told, "B5", "-10: 'a' | (-10,10): 'a' | 10: 'a'")
        self.row(told, "B6", "-10: 'A' | (-10,3): 'A' | 3: 'A' | (3,10): 'a' | 10: 'a'")
        self.row(told, "B7", "-10: True | (-10,3): True | 3: False | (3,10): True | 10: True")
        self.row(told, "B8", "-10: 5 | (-10,10): 5 | 10: 5")
        self.row(told, "B9", "-10: #NA | (-10,10): #NA | 10: #NA")

    def test_values_without_x(self):
        told = told_of({"B1": "=A1-A1+3", "B2": "=A1>A1", "B3": "=C9", "B4": "text", "B5": "=B4", "B6": "2.5", "B7": "=1/0"})
        for cell, text in {"B1": "3", "B2": "False", "B3": "0", "B4": "'text'", "B5": "'text'", "B6": "5/2",
                           "B7": "#DIV", "C9": "None"}.items():
            self.row(told, cell, f"(,): {text}")

    def test_irrational_points(self):
        told = told_of({"B1": "=IF(A1*A1<2,A1,A1+1)", "B2": "=IF(A1*A1=2,A1*A1,0)", "B3": "=IF(A1*A1=2,A1^3,0)",
                        "B4": "=IF(A1^2>2,A1^2,2)"})
        self.row(told, "B1", "(,~-1.414): x + 1 | ~-1.414: ~-0.414 | (~-1.414,~1.414): x | ~1.414: ~2.414 | (~1.414,): x + 1")
        self.row(told, "B2", "(,~-1.414): 0 | ~-1.414: 2 | (~-1.414,~1.414): 0 | ~1.414: 2 | (~1.414,): 0")
        self.row(told, "B3", "(,~-1.414): 0 | ~-1.414: ~-2.828 | (~-1.414,~1.414): 0 | ~1.414: ~2.828 | (~1.414,): 0")
        self.row(told, "B4", "(,~-1.414): x^2 | ~-1.414: 2 | (~-1.414,~1.414): 2 | ~1.414: 2 | (~1.414,): x^2")
        self.assertEqual(told.pieces("B1")[3].point, ROOT)

    def test_no_edge_at_irrational_points_without_need(self):
        told = told_of({"B1": "=IF(A1*A1<2,A1,A1)", "B2": "=IF(A1*A1=2,A1*A1*A1,2*A1)", "B3": "=IF(A1^2<2,1,1)+A1"})
        self.row(told, "B1", "(,): x")
        self.row(told, "B2", "(,): 2x")
        self.row(told, "B3", "(,): x + 1")

    def test_points_of_unlike_polys(self):
        told = told_of({"B1": "=IF(A1^3>2,1,0)", "B2": "=IF(A1^2>2,1,0)", "B3": "=B1+B2", "B4": "=IF(A1^4>4,B3,B3+10)"},
                       low=0)
        self.row(told, "B3", "0: 0 | (0,~1.259): 0 | ~1.259: 0 | (~1.259,~1.414): 1 | ~1.414: 1 | (~1.414,): 2")
        self.row(told, "B4", "0: 10 | (0,~1.259): 10 | ~1.259: 10 | (~1.259,~1.414): 11 | ~1.414: 11 | (~1.414,): 2")

    def test_spilled_cells(self):
        told = told_of({"B1": "=SEQUENCE(A1)*A1", "D1": "=SUM(B:B)", "D2": "=B1#", "E1": "=IF(A1>2,{1,2},5)"}, low=1, high=4)
        self.row(told, "B2", "1: None | (1,2): None | 2: 4 | (2,4): 2x | 4: 8")
        self.row(told, "B4", "1: None | (1,4): None | 4: 16")
        self.row(told, "D1", "1: 1 | (1,2): x | 2: 6 | (2,3): 3x | 3: 18 | (3,4): 6x | 4: 40")
        self.row(told, "D3", "1: None | (1,2): None | 2: 4 | (2,4): 2x | 4: 8")
        self.row(told, "F1", "1: None | (1,2): None | 2: None | (2,4): 2 | 4: 2")

    def test_spills_that_meet(self):
        told = told_of({"B1": "=SEQUENCE(A1)", "A3": "=SEQUENCE(1,2)", "C1": "=B3"}, free="D1", low=1, high=4)
        self.row(told, "A3", "1: 1 | (1,4): 1 | 4: 1")
        told = told_of({"B1": "=SEQUENCE(D1)", "A3": "=SEQUENCE(1,2)", "C1": "=B3"}, free="D1", low=1, high=4)
        self.row(told, "A3", "1: 1 | (1,3): 1 | 3: #SPILL | (3,4): #SPILL | 4: #SPILL")
        self.row(told, "B3", "1: 2 | (1,3): 2 | 3: 3 | (3,4): 3 | 4: 3")
        self.row(told, "C1", "1: 2 | (1,3): 2 | 3: 3 | (3,4): 3 | 4: 3")

    def test_other_sheets_and_names(self):
        told = told_of({"A1": "1", "Tax!B1": "=rate*Sheet1!A1", "B1": "=Tax!B1+rate"}, names={"rate": "A1+1"}, sheets=("Tax",))
        self.row(told, "tax!b1", "(,): x^2 + x")
        self.row(told, "B1", "(,): x^2 + 2x + 1")

    def test_a_long_chain(self):
        cells = {f"A{row}": f"=A{row - 1}+1" for row in range(2, 1500)}
        self.row(told_of(cells), "A1499", "(,): x + 1498")


class NotToldCells(RowCase):
    def test_texts_of_strands_and_members(self):
        cells = {
            "B1": "=A1&\"x\"", "B2": "=IF(A1>5,LEN(A1),2)", "B3": "=IF(A1*A1=2,A1&\"\",2)", "B4": "=IF(A1=5,A1&\"!\",\"\")",
            "C1": "=IF(FALSE,B1,1)", "C2": "=D1+1", "C3": "=SUM(E1:E2)", "D1": "=IFERROR(B1,0)", "E2": "=B1", "C4": "=A1+1",
            "F1": "=F2", "F2": "=F1&B1", "F3": "=ISERROR(F1)*A1",
        }
        told = told_of(cells)
        for cell in ("B1", "B2", "B3", "C1", "C2", "C3", "D1", "E2"):
            self.fails(NotTold, {}, told.pieces, cell)
            self.fails(NotTold, {}, told.value_at, cell, 1)
        self.row(told, "B4", "(,5): '' | 5: '5!' | (5,): ''")
        self.row(told, "C4", "(,): x + 1")
        # Formulas in rings are not worked, so what they see is not either.
        self.row(told, "F3", "(,): x")

    def test_texts_beyond_the_range(self):
        told = told_of({"B1": "=IF(A1>5,A1&\"\",A1)"}, low=0, high=5)
        self.row(told, "B1", "0: 0 | (0,5): x | 5: 5")

    def test_empty_cells_in_reaches(self):
        told = told_of({"B1": "=IF({TRUE;FALSE;TRUE},A1&\"\",1)", "C1": "=ISBLANK(B3)"})
        for cell in ("B1", "B2", "B3", "C1"):
            self.fails(NotTold, {}, told.pieces, cell)
        self.row(told, "B4", "(,): None")

    def test_many_parts(self):
        # From k on, a step of one: 2 k + 1 parts for a range with one end.
        told = told_of({"B1": "=IF(A1>149,0,INT(A1))", "B2": "=B1*0", "B3": "=IF(A1<1,0,B1)+A1"}, low=0)
        self.assertEqual(len(told.pieces("B1")), 300)
        told = told_of({"B1": "=IF(A1>150,0,INT(A1))", "B2": "=B1*0", "B3": "=B1>70"}, low=0)
        self.fails(NotTold, {}, told.pieces, "B1")
        self.row(told, "B2", "0: 0 | (0,): 0")
        self.row(told, "B3", "0: False | (0,71): False | 71: True | (71,150): True | 150: True | (150,): False")
        told = told_of({"B1": "=IF(A1<1,0,IF(A1>=149,0,INT(A1)))"})
        self.assertEqual(len(told.pieces("B1")), 299)
        self.fails(NotTold, {}, told_of({"B1": "=IF(A1<1,0,IF(A1>=150,0,INT(A1)))"}).pieces, "B1")

    def test_floors_without_end(self):
        told = told_of({"B1": "=INT(A1)", "B2": "=INT(A1)*0", "B3": "=MOD(A1*A1,1)", "B4": "=ISNUMBER(B1)", "B5": "=A1"})
        for cell in ("B1", "B2", "B3", "B4"):
            self.fails(NotTold, {}, told.pieces, cell)
        self.row(told, "B5", "(,): x")
        told = told_of({"B1": "=INT(1/A1)"}, low=0, high=1)
        self.fails(NotTold, {}, told.pieces, "B1")
        told = told_of({"B1": "=INT(A1)*0"}, low=0, high=900)
        self.row(told, "B1", "0: 0 | (0,900): 0 | 900: 0")

    def test_too_high(self):
        told = told_of({"B1": "=A1^60", "B2": "=B1*A1", "B3": "=IFERROR(1,B2)", "B4": "=9^64", "B5": "=B4^64", "B6": "=B5+A1",
                        "B7": "=B5", "B8": "=A1*B4"})
        self.row(told, "B1", "(,): x^60")
        for cell in ("B2", "B3"):
            self.fails(TooHigh, {"most": 60}, told.pieces, cell)
        for cell in ("B5", "B6", "B7"):
            self.fails(TooHigh, {"most": 3000}, told.pieces, cell)
        self.assertEqual(told.pieces("B8")[0].value, Curve(X * 9 ** 64))
        told = told_of({"B1": "=IF(A1>0,1/(A1^31-1),0)+1/(A1^31+5)"}, low=-5, high=0)
        self.assertEqual(len(told.pieces("B1")), 5)

    def test_too_high_where_it_is_free_or_not(self):
        told = told_of({"B1": "=9^60", "B2": "=IF(A1=1,(B1^60)^2,A1)", "B3": "=IF(A1>1,(B1^60)^2,A1)"})
        self.fails(TooHigh, {"most": 3000}, told.pieces, "B2")
        self.fails(TooHigh, {"most": 3000}, told.pieces, "B3")

    def test_what_is_not_told_once_is_not_told_again(self):
        told = told_of({"B1": "=A1&\"\"", "C1": "=B1"})
        for _ in range(3):
            self.fails(NotTold, {}, told.pieces, "C1")
            self.fails(NotTold, {}, told.pieces, "B1")


class WrongCalls(RowCase):
    def test_parts_are_equal_by_what_they_tell(self):
        curve, span = Curve(X), Span(0, 1)
        self.assertTrue(Piece(span, curve) == Piece(Span(0, 1), Curve(X)))
        self.assertFalse(Piece(span, curve) == Piece(Span(0, 2), curve))
        self.assertFalse(Piece(span, "a") == Piece(span, "A"))
        self.assertFalse(Piece(span, Ratio(1)) == Piece(span, True))
        self.assertTrue(Edge(ROOT, None) == Edge(isolate(X * X * X - 2 * X, 1, 2)[0], None))
        self.assertFalse(Edge(Ratio(0), Fault("NA")) == Edge(Ratio(0), Fault("DIV")))
        self.assertFalse(Edge(Ratio(0), None) == Edge(Ratio(1), None))
        self.assertFalse(Edge(Ratio(0), None) == Piece(span, None))
        self.assertEqual((Piece(span, curve).span, Piece(span, curve).value), (span, curve))
        self.assertEqual((Edge(Ratio(1), "a").point, Edge(Ratio(1), "a").value), (Ratio(1), "a"))

    def test_wrong_arguments(self):
        book = Book()
        for value in (None, 1, "A1", object()):
            self.bad(value, Told, value, "A1")
        for value in (None, 1, True, ["A1"]):
            self.bad(value, Told, book, value, 5, 1)
        for value in NO_RATIOS:
            self.bad(value, Told, book, "A1", value, value)
            self.bad(value, Told, book, "A1", 0, value)
        for low, high in ((1, 1), (2, Ratio(1)), (Ratio(1, 2), Ratio(1, 3))):
            self.bad(high, Told, book, "?", low, high)
        self.fails(NotAName, {"name": "A0"}, Told, book, "A0")
        self.fails(NotAName, {"name": ""}, Told, book, "", 0, 1)
        self.fails(Unknown, {"name": "Tax"}, Told, book, "Tax!A1")

    def test_wrong_arguments_of_methods(self):
        told = told_of({"B1": "=A1&\"\""}, low=0, high=2)
        for value in (None, 1, ["A1"], True):
            self.bad(value, told.pieces, value)
            self.bad(value, told.value_at, value, 9)
        for value in NO_RATIOS + (None, -1, 3, Ratio(-1, 9), Ratio(19, 9)):
            self.bad(value, told.value_at, "?", value)
        for call in (told.pieces, lambda cell: told.value_at(cell, 1)):
            self.fails(NotAName, {"name": "B1:B2"}, call, "B1:B2")
            self.fails(Unknown, {"name": "no"}, call, "no!B1")
            self.fails(NotTold, {}, call, "B1")

    def test_errors_are_sheet_errors(self):
        with self.assertRaises(SheetError):
            Told(Book(), "nothing at all")
        self.assertEqual(row_text(told_of({}).pieces("A1")), "(,): x")
