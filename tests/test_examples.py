"""The examples of the document, as they stand there; names of earlier ones are used again."""

import unittest

from tests.examples import outcome, pairs_of

BLOCKS = [
    # [84]
    r"""
>>> from allinputs.ratios import Ratio
>>> [str(Ratio(4, -6)), str(Ratio(1, 3) + Ratio(1, 6)), str(2 - Ratio(1, 2)), Ratio(-7, 2).floor(), Ratio(1, 3).compare(Ratio(1, 2)), str(Ratio(-2, 3).power(-3))]
['-2/3', '1/2', '3/2', -4, -1, '-27/8']
>>> Ratio(0).inverse()
raises NoDivisor()
""",
    # [85]
    r"""
>>> from allinputs.polys import Poly
>>> x = Poly([0, 1])
>>> [(x * x - 2).parts, ((x - 1) * (x - 1) * (x + 2)).plain().parts, (x * x - 1).common(2 * x - 2).parts, str((x * x * x).worth_at(Ratio(1, 2))), (x * x - 1).without(x + 1).parts]
[(-2, 0, 1), (-2, 1, 1), (-1, 1), '1/8', (-1, 1)]
""",
    # [86]
    r"""
>>> from allinputs.points import Point, count_roots, isolate
>>> root = isolate(x * x - 2, 0, None)[0]
>>> [count_roots(x * x - 2, None, None), count_roots(x * x - 1, -1, 1), root.digits(3), root.compare(Ratio(7, 5)), root.ratio(), root.sign_of(x * x * x - 3)]
[2, 0, '1.414', 1, None, -1]
>>> [root == Point(x * x * x - 2 * x, 1, 2), str(isolate(4 * x * x - 1, None, 0)[0].ratio())]
[True, '-1/2']
""",
    # [91]
    r"""
>>> from allinputs.curves import Curve
>>> from allinputs.members import member
>>> from allinputs.numbersorder import order_numbers
>>> first, second = isolate(Poly([-2, 0, 0, 0, 1]), None, None)
>>> curve = Curve(Poly([0, 0, -6, 0, 0, 0, 1]))
>>> [order_numbers(member(first, curve), member(second, curve)), order_numbers(member(first, Curve(x)), -1), order_numbers(member(second, Curve(x)), member(isolate(x * x - 2, 0, None)[0], Curve(x)))]
[0, -1, -1]
""",
    # behind [96]
    r"""
>>> from allinputs.grids import Grid, grid_of
>>> from allinputs.numerals import number_text, read_number
>>> from allinputs.ordering import order, sort_order
>>> from allinputs.turning import to_number, to_text, to_truth
>>> from allinputs.values import Fault, same
>>> [number_text(Ratio(one, other)) for one, other in ((-1, 4), (6, 3), (7, 3), (3, 2), (0, 5))]
['-0.25', '2', '7/3', '1.5', '0']
>>> [number_text(read_number(text)) for text in (" -.50 ", "2e3", "4/6", "3.", "5E-03")]
['-0.5', '2000', '2/3', '3', '0.005']
>>> read_number("1e")
raises NotANumber(at=2)
>>> read_number("1 2")
raises NotANumber(at=2)
>>> [to_number(True) == Ratio(1), to_number("x") == Fault("VALUE"), to_text(Ratio(1, 3)), to_text(False), to_truth("tRuE")]
[True, True, '1/3', 'FALSE', True]
>>> [order(Ratio(9), "1"), order("ab", "AC"), order(None, Ratio(-1)), order(None, ""), order(True, "z"), sort_order(None, Fault("NA"))]
[-1, -1, 1, 0, 1, 1]
>>> [same("a", "A"), order("a", "A"), same(Fault("NA"), Fault("NA")), Grid([[True]]) == grid_of(True)]
[False, 0, True, True]
""",
    # behind [101]
    r"""
>>> from allinputs.addresses import Address, address_text, column_of, letters_of, read_address
>>> from allinputs.areas import Area, area_text, read_area
>>> [letters_of(1), letters_of(27), letters_of(703), column_of("zz"), address_text(Address(7, 2, fixed_row=True)), read_address("sheet1!$b7").fixed_column]
['A', 'AA', 'AAA', 702, 'B$7', True]
>>> [area_text(read_area("C5:$A2")), area_text(read_area("2:$1")), area_text(read_area("b:b")), area_text(read_area("$C4:C$4")), area_text(read_area("C4:C4"))]
['$A2:C5', '$1:2', 'B:B', '$C$4:C4', 'C4']
>>> [area_text(part) for part in read_area("B:D").without(read_area("$C2:Z9"))]
['B1:D1', 'B10:D1000000', 'B2:B9']
>>> [area_text(read_area("B:D").common(read_area("tax!2:5"))), read_area("A1:C3").common(read_area("D4")), read_area("2:5").height, read_area("2:5").width]
['tax!B2:D5', None, 4, 18278]
>>> Address(1, 18278).pushed(0, 1)
raises OffGrid(row=1, column=18279)
""",
    # behind [104]
    r"""
>>> from allinputs.parser import read_formula
>>> from allinputs.printer import formula_relative, formula_text
>>> from allinputs.trees import moved
>>> formula = read_formula("= -a1^2 & \"x\"")
>>> [formula == ("&", ("^", ("minus", ("cell", Address(1, 1))), ("number", Ratio(2))), ("text", "x")), formula_text(formula)]
[True, '=-A1^2&"x"']
>>> formula = read_formula("=$A1+B3*rate")
>>> [formula_relative(formula, Address(2, 2)), formula_text(moved(formula, -1, 0))]
['=R[-1]C1+R[1]C*rate', '=#REF+B2*rate']
>>> read_formula("=SUM(A1:B2")
raises NotAFormula(at=10)
""",
    # behind [109]
    r"""
>>> from allinputs.functions import call, wanted
>>> from allinputs.signatures import place_sort, takes
>>> from allinputs.operators import negated, operate
>>> from allinputs.criteria import fits, meets
>>> number = Ratio(5, 2)
>>> [to_text(value) for value in (operate("/", "7", True), operate("&", number, None), operate("^", number, Ratio(-1)), negated("1/3"))]
['7', '2.5', '0.4', '-1/3']
>>> grid = Grid([[Ratio(3), "5"], [None, True], [Ratio(-1), Ratio(3)]])
>>> [to_text(call(name, [grid])) for name in ("SUM", "COUNT", "COUNTA", "MEDIAN", "MAX", "ROWS")]
['5', '3', '5', '3', '3', '3']
>>> [to_text(call("SUM", ["5", True, grid])), call("SUM", ["x", Fault("NA")]) == Fault("NA"), to_text(call("RANK", [Ratio(3), grid]))]
['11', True, '1']
>>> [meets("Anna", "a*a"), meets(Ratio(3), ">=2.5"), meets(None, "="), meets("5", "5"), fits("a?b", "a~?B")]
[True, True, True, False, True]
>>> line = Grid([[Ratio(1), Ratio(4), "x", Ratio(9)]])
>>> [to_text(call("MATCH", [Ratio(5), line])), call("MATCH", [Ratio(5), line, Ratio(0)]) == Fault("NA"), call("INDEX", [line, Ratio(3)])]
['2', True, 'x']
>>> [to_text(call("DATE", [Ratio(2024), Ratio(14), Ratio(0)])), to_text(call("ROUND", [Ratio(-5, 2)])), to_text(call("SUMIF", [grid, ">0"]))]
['45687', '-3', '6']
>>> [wanted("IF", 3, {0: False}), wanted("IF", 2, {0: False}), place_sort("IF", 3, 1), place_sort("SUM", 9, 7), place_sort("SWITCH", 4, 3), takes("SWITCH")]
[2, None, 'free', 'wide', 'free', (3, None)]
""",
    # behind [113]
    r"""
>>> from allinputs.book import Book
>>> from allinputs.webs import hangs_on, rings, seen_by
>>> from allinputs.working import last_worked
>>> book = Book()
>>> [book.put("A1", "2"), book.put("A2", "=A1*rate"), book.put("B1", "=SUM(A:A)"), book.define("Rate", "A4+1")]
[None, None, None, None]
>>> [book.names(), str(book.value_of("A2")), str(book.value_of("b1")), last_worked(book), seen_by(book, "A2")]
[{'rate': 'Sheet1!$A$4+1'}, '2', '4', ('Sheet1!A2', 'Sheet1!B1'), ('Sheet1!A1', 'Sheet1!A4')]
>>> [book.put("A4", "'5"), book.text_of("A4"), str(book.value_of("A2")), book.put("A1", 2), last_worked(book), hangs_on(book, "B1")]
[None, "'5", '12', None, (), ('Sheet1!A2',)]
>>> [book.put("A1", "=C1"), book.put("C1", "=$B$1/0"), rings(book), str(book.value_of("A2")), last_worked(book)]
[None, None, (('Sheet1!A1', 'Sheet1!B1', 'Sheet1!C1', 'Sheet1!A2'),), '#RING', ('Sheet1!A1', 'Sheet1!B1', 'Sheet1!C1', 'Sheet1!A2')]
""",
    # behind [114]
    r"""
>>> from allinputs.arrays import part_at, stretched
>>> from allinputs.spills import reach_at, spill_area, spilled_from
>>> [stretched([Grid([[True], [False]]), Grid([["a", "b", "c"]])]), part_at(Grid([["a", "b"]]), 9, 2)]
[(2, 3), 'b']
>>> book = Book()
>>> [book.put("A1", "=SEQUENCE(3)"), book.put("C1", "=A1#*{10,20}"), book.put("B2", "=SUM(C1#)")]
[None, None, None]
>>> [str(book.value_of("B2")), str(book.value_of("D3")), reach_at(book, "C1"), spill_area(book, "C1"), spilled_from(book, "A3"), hangs_on(book, "B2")]
['180', '60', (3, 2), 'Sheet1!C1:D3', 'Sheet1!A1', ('Sheet1!C1',)]
>>> [book.put("D2", "x"), str(book.value_of("B2")), book.value_of("D3"), book.put("D2", ""), str(book.value_of("D2"))]
[None, '#SPILL', None, None, '40']
""",
    # behind [118]
    r"""
>>> from allinputs.filling import fill_cells
>>> from allinputs.moving import copy_cells, move_cells
>>> from allinputs.sorting import sort_rows
>>> from allinputs.structure import delete_rows, insert_rows, open_cells
>>> book = Book()
>>> [book.put("A1", "2"), book.put("A2", "3"), book.put("A3", "=SUM(A1:A2)*A$1")]
[None, None, None]
>>> [insert_rows(book, "sheet1", 2, 2), book.text_of("A5"), str(book.value_of("A5"))]
[None, '=SUM(A1:A4)*A$1', '10']
>>> [copy_cells(book, "A5", "C6"), book.text_of("C6"), move_cells(book, "A4:A5", "D1"), book.text_of("D2"), book.text_of("C6")]
[None, '=SUM(C2:C5)*C$1', None, '=SUM(A1:A4)*A$1', '=SUM(C2:C5)*C$1']
>>> [delete_rows(book, "Sheet1", 1, 1), book.text_of("D1"), book.text_of("C5")]
[None, '=SUM(A1:A3)*#REF', '=SUM(C1:C4)*#REF']
>>> book = Book()
>>> [book.put("A1", "1"), book.put("A2", "2"), book.put("A3", "4"), book.put("B1", "=A1*A$1"), fill_cells(book, "A1:A3", "A1:A5"), fill_cells(book, "B1", "B1:B3")]
[None, None, None, None, None, None]
>>> [book.text_of(place) for place in ("A4", "A5", "B2", "B3")]
['16/3', '41/6', '=A2*A$1', '=A3*A$1']
>>> [sort_rows(book, "A1:A3", [(1, True)]), [book.text_of(place) for place in ("A1", "A2", "A3")], open_cells(book, "A2", down=False), book.text_of("B2"), book.text_of("C2")]
[None, ['4', '2', '1'], None, '2', '=B2*A$1']
""",
    # behind [126]
    r"""
>>> from allinputs.curves import curve_text
>>> from allinputs.ends import greatest, least
>>> from allinputs.goals import goal
>>> from allinputs.spans import Span
>>> from allinputs.told import Told
>>> book = Book()
>>> book.put("B1", "=IF(A1>0,1/A1,A1*A1-2)")
>>> told = Told(book, "A1")
>>> [(curve_text(one.value), one.span == Span(None, 0)) for one in told.pieces("B1")[:1]]
[('x^2 - 2', True)]
>>> [str(told.value_at("B1", number)) for number in (-3, 0, 4)]
['7', '-2', '1/4']
>>> goal(told, "B1", 0) == (Point(x * x - 2, -2, -1),)
True
>>> [str(one) for one in goal(told, "B1", 7)]
['-3', '1/7']
>>> [str(part) for part in least(told, "B1")], [str(part) for part in greatest(told, "B1")]
(['-2', '0', 'True'], ['None', '0', 'False'])
""",
    # behind [129]
    r"""
>>> from allinputs.rests import is_single, rests, values_at_rest
>>> from allinputs.going import Going
>>> from allinputs.courses import rounds_row
>>> ring = Book()
>>> ring.put("A1", "=B1/2+1/B1")
>>> ring.put("B1", "=A1")
>>> [is_single(ring, "A1"), rests(ring, "A1") == isolate(x * x - 2, None, None)]
[True, True]
>>> slow = Book()
>>> slow.put("A1", "=IF(A1<8,A1/2+3,A1)")
>>> [str(one) for one in rests(slow, "A1", 0, 8)], rests(slow, "A1")[1:] == (Ratio(8), Span(8, None)), values_at_rest(slow, "A1", 6)["Sheet1!A1"] == Ratio(6)
(['6', '8'], True, True)
>>> [str(one.value) for one in rounds_row(slow, {}, "A1", "A1", 2, 0, 8)[::2]]
['9/2', '8']
>>> going = Going(slow, {"A1": 4})
>>> [str(one) for one in going.course("A1", 3)], going.returns(100)
(['4', '5', '11/2', '23/4'], None)
""",
    # behind [134]
    r"""
>>> from allinputs.filters import fewest_lifted, kept, selectable
>>> from allinputs.formats import Format, shown
>>> from allinputs.pivots import Pivot
>>> from allinputs.rowtexts import read_rows, rows_text
>>> [shown(Ratio(-12345, 10), Format(text)) for text in ("0.0#;(0.00)", "$ #,##0")]
['(1234.50)', '-$ 1,235']
>>> grid, tests = Grid([["a", Ratio(2)], ["b", Ratio(5)], ["A", Ratio(3)]]), [(1, "a"), (2, ">2")]
>>> [kept(grid, tests), fewest_lifted(grid, tests, 2), selectable(grid, [], 1), read_rows("a,\"b\"\"\""), rows_text([["a,b", ""]])]
[[3], [0], ['a', 'b'], [['a', 'b"']], '"a,b",\n']
>>> pivot = Pivot(grid, [1], [], 2, "SUM")
>>> [pivot.row_keys(), pivot.rows_of(("A",), None), str(pivot.figure(None, None))]
[[('a',), ('b',)], [1, 3], '10']
""",
    # behind [136]
    r"""
>>> from allinputs.desk import Desk
>>> from allinputs.promises import broken_at, holds, promise_text
>>> book = Book()
>>> [book.put("A1", "1"), book.put("A2", "=1/(A1*A1+1)"), book.put("A3", "=A1*A1-2")]
[None, None, None]
>>> [promise_text(book, "$a$2 from 0 to 1.50 for A1"), holds(book, "A3 at least -2 for A1"), holds(book, "A3 reaches 2 for A1 from 3 to 4"), broken_at(book, "A2 never fails for A1")]
['Sheet1!A2 from 0 to 1.5 for Sheet1!A1', True, False, None]
>>> desk = Desk(book)
>>> [desk.keep("A2 at most 1 for A1"), desk.do(("insert_rows", "Sheet1", 2, 1)), desk.promises(), desk.do(("put", "A2", "=A3*A4")), desk.changed_by([("put", "A4", "=(A1-1)*(A1+1)-1")], "A1")]
[None, None, ('Sheet1!A3 at most 1 for Sheet1!A1',), None, ()]
>>> desk.do(("delete_rows", "Sheet1", 3, 1))
raises Broken(promise='Sheet1!A3 at most 1 for Sheet1!A1', where=None)
>>> [desk.trial([("put", "A3", "=1/A1")])[0][0], desk.undo(), desk.undo(), desk.current() == book, desk.redo(), desk.promises()]
['Sheet1!A3 at most 1 for Sheet1!A1', None, None, True, None, ('Sheet1!A3 at most 1 for Sheet1!A1',)]
""",
]


class Examples(unittest.TestCase):
    def test_examples(self):
        names = {}
        for block in BLOCKS:
            for line, expected in pairs_of(block):
                self.assertEqual(outcome(line, names), expected, line)
