"""The parts of told rows: pieces on open spans, edges at points."""


class Piece:
    """What a cell is on a span: a Curve that is not level, or a value without x. Pieces are made by the package."""

    def __init__(self, span, value):
        self.span = span
        self.value = value

    def __eq__(self, other):
        return isinstance(other, Piece) and self.span == other.span and self.value == other.value


class Edge:
    """What a cell is at a point, a Ratio or a Point that is none. Edges are made by the package."""

    def __init__(self, point, value):
        self.point = point
        self.value = value

    def __eq__(self, other):
        return isinstance(other, Edge) and self.point == other.point and self.value == other.value
