"""Formulas worked in their cells, by the values of the cells that they see."""

from allinputs.arrays import call_over, negative_over, sign_over, single_of
from allinputs.functions import next_wanted
from allinputs.grids import MOST_VALUES, made_grid
from allinputs.rects import many_cells, rect_from
from allinputs.sights import rect_of_node
from allinputs.signatures import is_function, is_taken, letters_for, sort_of_letter
from allinputs.trees import LEVELS, parts_of
from allinputs.values import Fault

_LEAVES = ("number", "text", "truth", "fault", "array", "cell", "spill", "area", "blank")


class Step:
    """A formula that is worked: its parts are worked one after another, as far as they are needed."""

    def __init__(self, formula, parts):
        self.formula = formula
        self.parts = parts
        self.known = {}
        self.at = 0
        self.name = formula[1] if formula[0] == "call" else None
        self.letters = "" if self.name is None else letters_for(self.name, len(parts))

    def next_part(self):
        """The part to be worked next, None if the result needs no more."""
        if self.name is not None:
            self.at = next_wanted(self.name, len(self.parts), self.known)
        else:
            self.at = len(self.known) if len(self.known) < len(self.parts) else None
        return None if self.at is None else self.parts[self.at]

    def is_single(self):
        """Whether the part that is worked now stands at a single place."""
        if self.name is None:
            return self.formula[0] in LEVELS or self.formula[0] == "minus"
        return sort_of_letter(self.letters[self.at]) == "single"

    def take(self, thing):
        """The part that is worked now tells a thing."""
        self.known[self.at] = single_of(thing) if self.is_single() else thing

    def told(self, here):
        """What the formula tells, if all is known that it needs."""
        word = self.formula[0]
        if word == "call":
            return call_over(self.name, len(self.parts), self.known, here)
        if word in LEVELS:
            return sign_over(word, self.known[0], self.known[1])
        return negative_over(self.known[0]) if word == "minus" else self.known[0]


class Worker:
    """What formulas are worked by: a Mesh, the values that cells have now, and the spills.

    known is a dict from cells to their values; cells without one are blank. spills is a dict from the cells of the
    formulas that spill to the heights and widths of their spills. Both may change between two calls.
    """

    def __init__(self, mesh, known, spills):
        self.mesh = mesh
        self.known = known
        self.spills = spills
        # The last rows, by sheets and columns, and the last columns, by sheets and rows, in which cells hold something.
        self.deepest = None
        self.widest = None
        # The Sight of the formula that is worked now.
        self.sight = None

    def result_at(self, cell):
        """What the formula of a cell tells: a value or a Grid."""
        return self.result_of(self.mesh.contents[cell], cell, self.mesh.sights[cell])

    def result_of(self, formula, cell, sight):
        """What a formula with a Sight tells in a cell, whatever this cell holds."""
        self.sight = sight
        if self._is_leaf(formula):
            return self._leaf(formula, cell, False)
        steps = [self._step(formula)]
        # Names tell the same wherever they are written in a formula, so each is worked once.
        named = {}
        while True:
            part = steps[-1].next_part()
            if part is None:
                step = steps.pop()
                told = step.told(cell[1:])
                if step.formula[0] == "name":
                    named[step.formula[1]] = told
                if not steps:
                    return told
                steps[-1].take(told)
            elif part[0] == "name" and part[1] in named:
                steps[-1].take(named[part[1]])
            elif self._is_leaf(part):
                steps[-1].take(self._leaf(part, cell, steps[-1].is_single()))
            else:
                steps.append(self._step(part))

    def _is_leaf(self, formula):
        """Whether a formula is told without working parts of it."""
        word = formula[0]
        if word == "name":
            return formula[1] not in self.mesh.setting.named or self.mesh.setting.is_circular(formula[1])
        if word == "call":
            return not is_function(formula[1]) or not is_taken(formula[1], len(formula[2]))
        return word in _LEAVES

    def _step(self, formula):
        """The step for a formula that has parts, or for a name."""
        if formula[0] == "name":
            return Step(formula, (self.mesh.setting.named[formula[1]],))
        return Step(formula, parts_of(formula))

    def _leaf(self, formula, cell, is_single):
        """What a formula that is told without its parts tells in a cell."""
        word = formula[0]
        if word in ("number", "text", "truth"):
            return formula[1]
        if word == "blank":
            return None
        if word == "fault":
            return Fault(formula[1])
        if word == "array":
            many = len(formula[1]) * len(formula[1][0])
            return made_grid(formula[1], None) if many <= MOST_VALUES else Fault("NUM")
        if word == "name":
            return Fault("RING" if formula[1] in self.mesh.setting.named else "NAME")
        if word == "call":
            return Fault("VALUE" if is_function(formula[1]) else "NAME")
        return self._reference(formula, cell, is_single)

    def _reference(self, node, cell, is_single):
        """What a reference tells in a cell; at a single place the value of one cell will do."""
        rect = rect_of_node(node, cell[0], self.mesh.setting)
        if rect is None:
            return Fault("REF")
        if node[0] == "spill" and rect[:3] in self.spills:
            height, width = self.spills[rect[:3]]
            rect = rect_from(rect[:3], height, width)
        elif node[0] != "area" and is_single:
            return self.known.get(rect[:3])
        elif node[0] == "area" and node[1].whole is not None:
            rect = self._cut(rect, node[1].whole)
        if many_cells(rect) > MOST_VALUES:
            return Fault("NUM")
        return self._grid(rect)

    def _grid(self, rect):
        """The Grid of the values of a rectangle, with its corner."""
        sheet, top, left, bottom, right = rect
        columns = range(left, right + 1)
        known = self.known
        rows = [tuple([known.get((sheet, row, column)) for column in columns]) for row in range(top, bottom + 1)]
        return made_grid(tuple(rows), (top, left))

    def _cut(self, rect, whole):
        """The rectangle of whole columns, or rows, up to the last row, or column, that counts for the formula."""
        sheet, top, left, bottom, right = rect
        if self.deepest is None:
            self._look_at_ends()
        if whole == "columns":
            peers = [peer for peer in self.sight.columns if peer[0] == sheet]
            return sheet, top, left, self._last(self.deepest, peers, 0), right
        peers = [peer for peer in self.sight.rows if peer[0] == sheet]
        return sheet, top, left, bottom, self._last(self.widest, peers, 1)

    def _last(self, ends, peers, side):
        """The last row of some whole columns, or the last column of whole rows if side is 1, at least 1."""
        last = 1
        for (sheet, line), end in ends.items():
            if end > last and any([peer[0] == sheet and peer[2 - side] <= line <= peer[4 - side] for peer in peers]):
                last = end
        for cell, size in self.spills.items():
            spill = rect_from(cell, size[0], size[1])
            if spill[3 + side] > last and any([_share_lines(spill, peer, 2 - side) for peer in peers]):
                last = spill[3 + side]
        return last

    def _look_at_ends(self):
        """Finds the last rows and columns in which cells hold something."""
        deepest = {}
        widest = {}
        for sheet, row, column in self.mesh.contents:
            deepest[(sheet, column)] = max(row, deepest.get((sheet, column), 0))
            widest[(sheet, row)] = max(column, widest.get((sheet, row), 0))
        self.deepest = deepest
        self.widest = widest


def _share_lines(one, other, at):
    """Whether two rectangles on one sheet have a column, or a row, in common, told by where their first one stands."""
    return one[0] == other[0] and one[at] <= other[at + 2] and other[at] <= one[at + 2]
