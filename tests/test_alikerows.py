"""[36], [76]: rows of values that are the same but for capitals."""

from allinputs.alikerows import AlikeRows, alike, first_alike_rows
from allinputs.curves import Curve
from allinputs.errors import Turns
from allinputs.members import member
from allinputs.pivots import Pivot
from allinputs.polys import Poly
from allinputs.ratios import Ratio
from allinputs.strands import strand
from allinputs.values import Fault
from tests.calls import thing
from tests.helper import ROOT, UP, X, Case, root_member, root_strand


def are_alike(row, peer):
    """Whether two rows are alike, value by value."""
    return all(alike(one, other) for one, other in zip(row, peer))


class Rows(Case):
    def places(self, rows):
        """The places of rows as they come, held against a walk over all rows that came ahead."""
        found, unlike, told = AlikeRows(), [], []
        for row in rows:
            place = next((at for at, peer in enumerate(unlike) if are_alike(row, peer)), None)
            self.assertEqual(found.place_of(row), place)
            if place is None:
                place = len(unlike)
                unlike.append(row)
            self.assertEqual(found.take(row), place)
            self.assertEqual(found.place_of(row), place)
            self.assertEqual(found.rows, unlike)
            told.append(place)
        self.assertEqual(first_alike_rows(rows), unlike)
        return told

    def test_told_values(self):
        rows = [("a",), ("A",), (None,), (True,), (Ratio(1),), ("1",), (Fault("NA"),), (False,), (Fault("DIV"),),
                (None,)]
        self.assertEqual(self.places(rows), [0, 0, 1, 2, 3, 4, 5, 6, 7, 1])
        self.assertEqual(self.places([]), [])
        self.assertEqual(self.places([(), ()]), [0, 0])
        self.assertIsNone(AlikeRows().place_of(("a",)))

    def test_strands(self):
        x = root_strand(UP)
        rows = [(Ratio(-1), "a"), (x, "a"), ("b", x), (x, "A"), (Ratio(-1), "A"), (x + 1, "a"), ("B", x), (x, None),
                (x * 2 - x, "a"), ("b", Ratio(0)), ("b", Ratio(0)), (None, x)]
        self.assertEqual(self.places(rows), [0, 1, 2, 1, 0, 3, 2, 4, 1, 5, 5, 6])
        self.assertEqual(self.places([(x,), (-x,), (x,), (-x,)]), [0, 1, 0, 1])

    def test_members(self):
        root = root_member()
        rows = [(Ratio(7, 5),), (root,), (Ratio(1),), (root + 1,), (member(ROOT, Curve(Poly([2]), X)),), (root,),
                (Ratio(7, 5),)]
        self.assertEqual(self.places(rows), [0, 1, 2, 3, 1, 1, 0])

    def test_what_turns(self):
        x = root_strand(UP)
        rows = AlikeRows()
        self.assertEqual([rows.take(("a", x)), rows.take(("b", Ratio(1)))], [0, 1])
        self.assertEqual(rows.place_of(("A", x)), 0)
        for row in (("b", x), ("a", Ratio(1)), ("a", x * x)):
            for ask in (rows.place_of, rows.take):
                with self.assertRaises(Turns):
                    ask(row)
        self.assertEqual(rows.rows, [("a", x), ("b", Ratio(1))])
        self.assertEqual(rows.place_of(("c", x)), None)

    def test_keys_of_pivots(self):
        x = root_strand(UP)
        again = strand(Curve(X * X * X, X * X), UP)
        grid = thing([["a", 1], [x, 2], ["A", 3], [again, 4], [-2, 5], [x + 1, 6], [x, 7]])
        pivot = Pivot(grid, [1], [], 2, "SUM")
        self.assertEqual([pivot.rows_of((key,), None) for key in ("A", x, Ratio(-2), x + 1, x + 2, "b")],
                         [[1, 3], [2, 4, 7], [5], [6], [], []])
        self.assertEqual(pivot.figure((x,), None), Ratio(13))
