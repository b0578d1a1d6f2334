"""What the tests share."""

import unittest
from fractions import Fraction

from allinputs.curves import Curve
from allinputs.errors import BadValue, SheetError
from allinputs.members import member
from allinputs.points import Point, isolate
from allinputs.polys import Poly
from allinputs.ratios import Ratio
from allinputs.spans import Span
from allinputs.strands import strand

X = Poly([0, 1])
ROOT = isolate(X * X - 2, 0, None)[0]
CUBE = isolate(X * X * X - 2, None, None)[0]
WIDE = Span(None, None)
UP = Span(0, None)
UNIT = Span(0, 1)

# Things that are no integers, and neither Ratios nor anything else that a function takes.
NO_INTEGERS = (True, False, 1.5, "1", None, [1], (1,), {}, Ratio(1))
NO_RATIOS = (True, False, 1.5, "1", [1], (1,), {}, X, Curve(X), object())


def root_strand(span=UP):
    """The number x on a span."""
    return strand(Curve(X), span)


def root_member(point=ROOT):
    """The number x at a point."""
    return member(point, Curve(X))


def fraction(ratio):
    """A Ratio as a Fraction."""
    return Fraction(ratio.top, ratio.bottom)


def linear(ratio):
    """A Point that is a ratio."""
    return Point(X * ratio.bottom - ratio.top, ratio - 1, ratio + 1)


class Case(unittest.TestCase):
    """Checks of what is raised."""

    def fails(self, error, fields, call, *arguments, **named):
        """A call raises an error of just this class, with these fields, as they were passed."""
        with self.assertRaises(SheetError) as caught:
            call(*arguments, **named)
        self.assertIs(type(caught.exception), error)
        self.assertEqual(vars(caught.exception), fields)
        return caught.exception

    def bad(self, value, call, *arguments, **named):
        """A call raises BadValue with just this object."""
        with self.assertRaises(SheetError) as caught:
            call(*arguments, **named)
        self.assertIs(type(caught.exception), BadValue)
        self.assertEqual(list(vars(caught.exception)), ["value"])
        self.assertIs(caught.exception.value, value)
