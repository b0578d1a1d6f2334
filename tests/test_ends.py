"""[62], [63], [124]: the least and the greatest number that cells are."""

from allinputs.ends import greatest, least
from allinputs.errors import NotAName, NotTold, Unknown
from allinputs.members import Member
from allinputs.ratios import Ratio
from allinputs.spans import Span
from tests.helper import ROOT
from tests.rows import RowCase, place_text, told_of, value_text


class Ends(RowCase):
    def ends(self, formula, low_text, high_text, low=None, high=None):
        """The least and the greatest number of a formula, as texts: "value at where", or "value by where" beside."""
        told = told_of({"B1": formula}, low=low, high=high)
        for call, text in ((least, low_text), (greatest, high_text)):
            found = call(told, "B1")
            if found is not None:
                value, where, is_reached = found
                shown = "out" if where is None else place_text(where)
                found = f"{value_text(value)} {'at' if is_reached else 'by'} {shown}"
            self.assertEqual(found, text, formula)

    def test_reached_on_spans(self):
        self.ends("=3", "3 at (,)", "3 at (,)")
        self.ends("=IF(A1>1,3,IF(A1>0,2,1))", "1 at (,0)", "3 at (1,)")
        self.ends("=IF(A1>1,3,IF(A1>0,1,1))", "1 at (,1)", "3 at (1,)")
        self.ends("=IF(A1<0,2,IF(A1=0,1,IF(A1<5,1,3)))", "1 at 0", "3 at 5")
        self.ends("=IF(A1<0,2,IF(A1<5,1,3))", "1 at 0", "3 at 5")
        self.ends("=3", "3 at 0", "3 at 0", low=0, high=1)

    def test_reached_at_ratios(self):
        self.ends("=A1*A1-2", "-2 at 0", "None by out")
        self.ends("=A1*(1-A1)", "None by out", "1/4 at 1/2")
        self.ends("=IF(A1=3,-5,A1*A1)", "-5 at 3", "None by out")
        self.ends("=ABS(A1-2)", "0 at 2", "None by out")
        self.ends("=A1", "-1 at -1", "4 at 4", low=-1, high=4)
        self.ends("=A1^3-3*A1", "-2 at -2", "2 at -1", low=-2, high=2)
        self.ends("=A1^4-2*A1^2", "-1 at -1", "None by out")

    def test_reached_at_points(self):
        self.ends("=IF(A1*A1=2,-A1,1)", "~-1.414 at ~1.414", "~1.414 at ~-1.414")
        self.ends("=IF(A1*A1=2,5,1)", "1 at (,~-1.414)", "5 at ~-1.414")
        self.ends("=A1^3-6*A1", "~-5.656 at ~1.414", "~5.656 at ~-1.414", low=-2, high=2)
        self.ends("=(A1^2-2)^2", "0 at ~-1.414", "None by out")
        self.ends("=A1/(A1^2+2)", "~-0.353 at ~-1.414", "~0.353 at ~1.414")
        self.ends("=(A1^2-2)^2+A1^2-A1^2", "0 at ~-1.414", "4 at -2", low=-2, high=2)

    def test_the_value_at_a_point(self):
        told = told_of({"B1": "=A1/(A1^2+2)"})
        value, where, _ = greatest(told, "B1")
        self.assertEqual(where, ROOT)
        self.assertIsInstance(value, Member)
        self.assertEqual(value.point, ROOT)
        # Of equal ones at several places the first one counts.
        told = told_of({"B1": "=IF(A1*A1=2,A1*A1*A1*SIGN(A1),0)"})
        value, where, _ = greatest(told, "B1")
        self.assertEqual(place_text(where), "~-1.414")
        self.assertEqual(value.point, where)
        self.assertEqual(value.digits(3), "2.828")

    def test_not_reached_beside_places(self):
        self.ends("=IF(A1>0,A1,5)", "0 by 0", "None by out")
        self.ends("=IF(A1=0,5,A1*A1)", "0 by 0", "None by out")
        self.ends("=IF(A1*A1<2,A1,0)", "~-1.414 by ~-1.414", "~1.414 by ~1.414")
        self.ends("=IF(A1*A1<2,A1^2,0)", "0 at (,~-1.414)", "2 by ~-1.414")
        self.ends("=IF(A1<1,A1,IF(A1>1,2-A1,0))", "None by out", "1 by 1")
        self.ends("=IF(A1=2,7,IF(A1=-2,7,4-ABS(A1^2-4)))", "None by out", "7 at -2")
        self.ends("=IF(ABS(A1)=2,0,4-ABS(A1^2-4))", "None by out", "4 by -2")

    def test_beyond_all_numbers(self):
        self.ends("=1/A1", "None by 0", "None by 0")
        self.ends("=1/A1^2", "0 by out", "None by 0")
        self.ends("=1/((A1-1)*(A1+2))", "None by -2", "None by -2")
        self.ends("=1/(A1^2-2)", "None by ~-1.414", "None by ~-1.414")
        self.ends("=IF(A1>0,1/(A1^2-2),0)", "None by ~1.414", "None by ~1.414")
        self.ends("=A1^3", "None by out", "None by out")
        self.ends("=A1^3+1/A1^2", "None by out", "None by 0")
        self.ends("=-1/A1", "None by 0", "-1/4 at 4", low=0, high=4)

    def test_far_out_alone(self):
        self.ends("=A1^2/(A1^2+1)", "0 at 0", "1 by out")
        self.ends("=1/(A1^2+1)", "0 by out", "1 at 0")
        self.ends("=(3*A1^2+A1)/(2*A1^2+1)", "~-0.079 at ~-0.158", "~1.579 at ~3.158")
        self.ends("=IF(A1<0,1/(1-A1),IF(A1=0,5,1/(1+A1)))", "0 by out", "5 at 0")
        self.ends("=IF(A1<0,A1/(1-A1),A1+1)", "-1 by out", "None by out")
        self.ends("=IF(A1=3,0,IF(A1>5,1/A1,IF(A1<-5,-1/A1,1)))", "0 at 3", "1 at -5")

    def test_far_out_and_beside_a_place(self):
        self.ends("=IF(A1<0,A1^2/(A1^2+1),IF(A1=0,0.5,IF(A1<1,1-A1,0.5)))", "0 by 0", "1 by 0")

    def test_nowhere_a_number(self):
        for formula in ("=\"x\"", "=1/0", "=TRUE", "=C9=1"):
            self.ends(formula, None, None)
        self.assertIsNone(least(told_of({}), "C9"))
        self.ends("=IF(A1=1,A1,\"x\")", "1 at 1", "1 at 1")
        self.ends("=IF(A1<1,\"x\",IF(A1<2,A1,NA()))", "1 at 1", "2 by 2")

    def test_members_at_unlike_points(self):
        # At the roots of 2 and of 3 the worths are equal numbers, or nearly.
        self.ends("=IF(A1*A1=2,A1*A1,IF(A1*A1=3,A1*A1-1,0))", "0 at (,~-1.732)", "2 at ~-1.732")
        self.ends("=IF(A1*A1=2,A1,IF(A1*A1=8,A1/2,-9))", "-9 at (,~-2.828)", "~1.414 at ~1.414")
        self.ends("=IF(A1*A1=8,A1/2,IF(A1*A1=2,A1,9))", "~-1.414 at ~-2.828", "9 at (,~-2.828)")

    def test_wrong_arguments(self):
        told = told_of({"B1": "=A1&1"})
        for call in (least, greatest):
            for value in (None, 1, told.book):
                self.bad(value, call, value, "B1")
            for value in (None, 1, True):
                self.bad(value, call, told, value)
            self.fails(NotAName, {"name": "?"}, call, told, "?")
            self.fails(Unknown, {"name": "Tax"}, call, told, "Tax!A1")
            self.fails(NotTold, {}, call, told, "B1")
            found = call(cell="A1", told=told_of({}, low=3, high=Ratio(7, 2)))
            self.assertEqual(found, (found[0], found[0], True))
        self.assertEqual(least(told_of({"B1": "2"}), "B1"), (Ratio(2), Span(None, None), True))
