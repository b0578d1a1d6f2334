"""The examples of the document, as they stand there; names of earlier ones are used again."""

import unittest

from tests.examples import outcome, pairs_of

BLOCKS = [
    # [84]
    r"""
>>> from allinputs.ratios import Ratio
>>> [str(Ratio(4, -6)), str(Ratio(1, 3) + Ratio(1, 6)), str(2 - Ratio(1, 2)), Ratio(-7, 2).floor(), Ratio(1, 3).compare(Ratio(1, 2)), str(Ratio(-2, 3).power(-3))]
['-2/3', '1/2', '3/2', -4, -1, '-27/8']
>>> Ratio(0).inverse()
raises NoDivisor()
""",
    # [85]
    r"""
>>> from allinputs.polys import Poly
>>> x = Poly([0, 1])
>>> [(x * x - 2).parts, ((x - 1) * (x - 1) * (x + 2)).plain().parts, (x * x - 1).common(2 * x - 2).parts, str((x * x * x).worth_at(Ratio(1, 2))), (x * x - 1).without(x + 1).parts]
[(-2, 0, 1), (-2, 1, 1), (-1, 1), '1/8', (-1, 1)]
""",
    # [86]
    r"""
>>> from allinputs.points import Point, count_roots, isolate
>>> root = isolate(x * x - 2, 0, None)[0]
>>> [count_roots(x * x - 2, None, None), count_roots(x * x - 1, -1, 1), root.digits(3), root.compare(Ratio(7, 5)), root.ratio(), root.sign_of(x * x * x - 3)]
[2, 0, '1.414', 1, None, -1]
>>> [root == Point(x * x * x - 2 * x, 1, 2), str(isolate(4 * x * x - 1, None, 0)[0].ratio())]
[True, '-1/2']
""",
    # [91]
    r"""
>>> from allinputs.curves import Curve
>>> from allinputs.members import member
>>> from allinputs.numbersorder import order_numbers
>>> first, second = isolate(Poly([-2, 0, 0, 0, 1]), None, None)
>>> curve = Curve(Poly([0, 0, -6, 0, 0, 0, 1]))
>>> [order_numbers(member(first, curve), member(second, curve)), order_numbers(member(first, Curve(x)), -1), order_numbers(member(second, Curve(x)), member(isolate(x * x - 2, 0, None)[0], Curve(x)))]
[0, -1, -1]
""",
    # behind [96]
    r"""
>>> from allinputs.grids import Grid, grid_of
>>> from allinputs.numerals import number_text, read_number
>>> from allinputs.ordering import order, sort_order
>>> from allinputs.turning import to_number, to_text, to_truth
>>> from allinputs.values import Fault, same
>>> [number_text(Ratio(one, other)) for one, other in ((-1, 4), (6, 3), (7, 3), (3, 2), (0, 5))]
['-0.25', '2', '7/3', '1.5', '0']
>>> [number_text(read_number(text)) for text in (" -.50 ", "2e3", "4/6", "3.", "5E-03")]
['-0.5', '2000', '2/3', '3', '0.005']
>>> read_number("1e")
raises NotANumber(at=2)
>>> read_number("1 2")
raises NotANumber(at=2)
>>> [to_number(True) == Ratio(1), to_number("x") == Fault("VALUE"), to_text(Ratio(1, 3)), to_text(False), to_truth("tRuE")]
[True, True, '1/3', 'FALSE', True]
>>> [order(Ratio(9), "1"), order("ab", "AC"), order(None, Ratio(-1)), order(None, ""), order(True, "z"), sort_order(None, Fault("NA"))]
[-1, -1, 1, 0, 1, 1]
>>> [same("a", "A"), order("a", "A"), same(Fault("NA"), Fault("NA")), Grid([[True]]) == grid_of(True)]
[False, 0, True, True]
""",
    # behind [101], what addresses.py alone is needed for
    r"""
>>> from allinputs.addresses import Address, address_text, column_of, letters_of, read_address
>>> [letters_of(1), letters_of(27), letters_of(703), column_of("zz"), address_text(Address(7, 2, fixed_row=True)), read_address("sheet1!$b7").fixed_column]
['A', 'AA', 'AAA', 702, 'B$7', True]
>>> Address(1, 18278).pushed(0, 1)
raises OffGrid(row=1, column=18279)
""",
    # behind [134], what formats.py alone is needed for
    r"""
>>> from allinputs.formats import Format, shown
>>> [shown(Ratio(-12345, 10), Format(text)) for text in ("0.0#;(0.00)", "$ #,##0")]
['(1234.50)', '-$ 1,235']
""",
]


class Examples(unittest.TestCase):
    def test_examples(self):
        names = {}
        for block in BLOCKS:
            for line, expected in pairs_of(block):
                self.assertEqual(outcome(line, names), expected, line)
