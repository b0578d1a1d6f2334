"""Verdicts: where told rows do not keep to what is claimed of them."""

from allinputs.curves import Curve
from allinputs.points import Point
from allinputs.ratios import Ratio
from allinputs.rowparts import Edge
from allinputs.spans import has_root
from allinputs.stretches import cut_span, level_poly
from allinputs.values import Fault, compare_numbers, is_number


class Verdict:
    """Whether a promise holds, and where it is broken, if that is told."""

    def __init__(self, is_kept, where):
        self.is_kept = is_kept
        self.where = where


class NoFault:
    """The claim that a value is no fault."""

    def is_met_by(self, value):
        """Whether a value is as claimed."""
        return not isinstance(value, Fault)

    def bounds(self):
        """The list of the Ratios at which a number may cease to be as claimed."""
        return []


class Bounded:
    """The claim that a value is a number, not less than one Ratio and not greater than another one; None is none."""

    def __init__(self, least, most):
        self.least = least
        self.most = most

    def is_met_by(self, value):
        """Whether a value is as claimed."""
        if not is_number(value):
            return False
        if self.least is not None and compare_numbers(value, self.least) < 0:
            return False
        return self.most is None or compare_numbers(value, self.most) <= 0

    def bounds(self):
        """The list of the Ratios at which a number may cease to be as claimed."""
        return [bound for bound in (self.least, self.most) if bound is not None]


def verdict_of_place(place):
    """The Verdict on what does not hold at a Ratio or a Point; it holds for None."""
    return Verdict(place is None, place)


def place_outside(parts, claim):
    """A Ratio at which the value of a told row is not as claimed, or else the least such Point; None if nowhere."""
    points = []
    for part in parts:
        if isinstance(part, Edge):
            if not claim.is_met_by(part.value):
                points.append(part.point)
        else:
            ratio = _ratio_outside(part, claim)
            if ratio is not None:
                return ratio
    for point in points:
        if not isinstance(point, Point):
            return point
    return points[0] if points else None


def _ratio_outside(piece, claim):
    """A Ratio at which a Piece is not as claimed, None if there is none."""
    if not isinstance(piece.value, Curve):
        return None if claim.is_met_by(piece.value) else piece.span.inner()
    # Beside the places at which a curve is a bound it is as claimed all over, or nowhere.
    for span in cut_span(piece.span, [level_poly(piece.value, bound) for bound in claim.bounds()])[0]:
        ratio = span.inner()
        if not claim.is_met_by(piece.value.worth_at(ratio)):
            return ratio
    return None


def reaches_ratio(parts, ratio):
    """Whether the value of a told row is a Ratio anywhere."""
    for part in parts:
        if isinstance(part.value, Curve):
            if has_root(level_poly(part.value, ratio), part.span):
                return True
        elif isinstance(part.value, Ratio) and part.value == ratio:
            return True
    return False
