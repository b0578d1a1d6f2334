"""Strands: curves on open spans in which their bottoms have no root."""

from allinputs.checks import check_integer
from allinputs.curves import check_curve, level_ratio
from allinputs.errors import BadValue, NotTold, Turns
from allinputs.ratios import as_ratio
from allinputs.spans import check_span, has_root


class Strand:
    """A curve that is not level, on a span. Strands are made by strand and by each other alone."""

    def __init__(self, curve, span):
        self.curve = curve
        self.span = span
        # A Ratio on the left of an operator leaves the work to this strand.
        self.beside_ratios = True

    def __eq__(self, other):
        return isinstance(other, Strand) and self.curve == other.curve and self.span == other.span

    def __add__(self, other):
        return _number_on(self.curve + _beside(self, other), self.span)

    def __radd__(self, other):
        return self + as_ratio(other)

    def __sub__(self, other):
        return _number_on(self.curve - _beside(self, other), self.span)

    def __rsub__(self, other):
        return -self + as_ratio(other)

    def __mul__(self, other):
        return _number_on(self.curve * _beside(self, other), self.span)

    def __rmul__(self, other):
        return self * as_ratio(other)

    def __neg__(self):
        return Strand(-self.curve, self.span)

    def inverse(self):
        """1 by this strand."""
        check_rootless(self.curve.top, self.span)
        return _number_on(self.curve.inverse(), self.span)

    def power(self, exponent):
        """This strand to the power of an integer."""
        check_integer(exponent)
        if exponent < 0:
            check_rootless(self.curve.top, self.span)
        return _number_on(self.curve.power(exponent), self.span)

    def sign(self):
        """-1 or 1, which it is all over the span."""
        check_rootless(self.curve.top, self.span)
        return self.curve.worth_at(self.span.inner()).sign()

    def floor(self):
        """The whole part, which is the same all over the span."""
        whole = self.curve.worth_at(self.span.inner()).floor()
        check_rootless(self.curve.top - self.curve.bottom * whole, self.span)
        check_rootless(self.curve.top - self.curve.bottom * (whole + 1), self.span)
        return whole

    def ratio(self):
        """None: a strand is no ratio."""
        return None


def strand(curve, span):
    """The number of a Curve on a Span: a Ratio if it is level, otherwise a Strand."""
    check_curve(curve)
    check_span(span)
    if has_root(curve.bottom, span):
        raise NotTold()
    return _number_on(curve, span)


def check_rootless(poly, span):
    """A poly that has no root in a span; otherwise Turns is raised, with its plain form."""
    if has_root(poly, span):
        raise Turns(poly.plain())


def _number_on(curve, span):
    """The number of a curve whose bottom has no root in a span."""
    if curve.is_level():
        return level_ratio(curve)
    return Strand(curve, span)


def _beside(own, other):
    """The curve or the Ratio of the other operand: a Strand on an equal span, a Ratio or an integer."""
    if not isinstance(other, Strand):
        return as_ratio(other)
    if own.span != other.span:
        raise BadValue(other)
    return other.curve
