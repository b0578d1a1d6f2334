"""Told rows of functions of one number."""

from allinputs.errors import BadValue
from allinputs.marks import Ruler
from allinputs.points import check_ends
from allinputs.rows import told_parts, worked_row

# What can be passed by mistake and is no function is known by the name of its class.
_NO_FUNCTIONS = (
    "NoneType", "bool", "int", "float", "complex", "str", "bytes", "list", "tuple", "dict", "set", "frozenset", "range",
    "object", "Ratio", "Poly", "Point", "Curve", "Span", "Strand", "Member", "Fault", "Grid", "Format", "Address",
    "Area", "Book", "Piece", "Edge", "Told", "Going", "Pivot", "Desk",
)


class OneNumber:
    """The work of a function that takes the number x."""

    def __init__(self, ruler, work):
        self.ruler = ruler
        self.action = work

    def told_on(self, first, last):
        """What it tells for x on the span between two marks."""
        action = self.action
        return action(self.ruler.x_between(first, last))

    def told_at(self, mark):
        """What it tells for x at a mark."""
        action = self.action
        return action(mark.x)


def told_row(work, low=None, high=None):
    """The told row of the values of a function of x in a range."""
    if work.__class__.__name__ in _NO_FUNCTIONS:
        raise BadValue(work)
    check_ends(low, high)
    ruler = Ruler(low, high)
    return told_parts(ruler, worked_row(ruler, [], OneNumber(ruler, work)))
