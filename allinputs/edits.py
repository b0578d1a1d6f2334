"""Edits: cells that get other places, and the references that follow them."""

from allinputs.addresses import COLUMNS, ROWS, placed
from allinputs.areas import Area, read_area
from allinputs.book import put_held, sheet_at
from allinputs.holdings import Holding
from allinputs.printer import tree_text
from allinputs.rects import has_cell, is_within, rect_of
from allinputs.renaming import on_sheet
from allinputs.settings import Setting
from allinputs.sights import rect_of_node
from allinputs.trees import nodes_of, with_nodes

REF = ("fault", "REF")


class Shift:
    """Rows that are put in ahead of a row, or taken out from it on, within some columns; or columns within rows.

    A line is a row, or a column if side is 1; across are the first and the last place of the cells within it. many
    is above 0 for lines that are put in, below 0 for lines that are taken out.
    """

    def __init__(self, sheet, at, many, across, side):
        self.sheet = sheet
        self.at = at
        self.many = many
        self.across = across
        self.side = side
        self.most = COLUMNS if side == 1 else ROWS

    def cell_behind(self, cell):
        """Where what a cell holds comes to lie, maybe off the grid; None if it is taken out."""
        line, place = cell[1 + self.side], cell[2 - self.side]
        if cell[0] != self.sheet or line < self.at or place < self.across[0] or place > self.across[1]:
            return cell
        if self.many < 0 and line < self.at - self.many:
            return None
        return (cell[0], line + self.many, place) if self.side == 0 else (cell[0], place, line + self.many)

    def node_behind(self, node, rect):
        """What becomes of a reference node that means a rectangle: a pair of the node and the number of its sheet."""
        places = rect[2 - self.side], rect[4 - self.side]
        if rect[0] != self.sheet or places[0] < self.across[0] or places[1] > self.across[1]:
            return node, rect[0]
        if node[0] == "area" and node[1].whole == ("rows" if self.side == 1 else "columns"):
            return node, rect[0]
        first, last = self._lines_behind(rect[1 + self.side], rect[3 + self.side])
        if first > last or first > self.most:
            return REF, rect[0]
        if node[0] == "area":
            area = node[1]
            corners = self._with_line(area.first, first), self._with_line(area.last, min(last, self.most))
            return ("area", Area(corners[0], corners[1], whole=area.whole)), rect[0]
        return (node[0], self._with_line(node[1], first)), rect[0]

    def _lines_behind(self, first, last):
        """The first and the last line that are left of some, as they lie now; the first is behind if none is."""
        left = [self._line_behind(line) for line in (first, last)]
        # Of lines that are taken out, the first one behind them, and the last one ahead of them, is left.
        if self.at <= first < self.at - self.many:
            left[0] = self.at
        if self.at <= last < self.at - self.many:
            left[1] = self.at - 1
        return left[0], left[1]

    def _line_behind(self, line):
        """Where a line that is not taken out comes to lie."""
        return line if line < self.at else line + self.many

    def _with_line(self, address, line):
        """An Address in another line."""
        return placed(address, address.row, line) if self.side == 1 else placed(address, line, address.column)


class Move:
    """What the cells of a rectangle hold goes so many rows and columns on, and to a sheet."""

    def __init__(self, rect, sheet, down, right):
        self.rect = rect
        self.target = (sheet, rect[1] + down, rect[2] + right, rect[3] + down, rect[4] + right)
        self.down = down
        self.right = right

    def cell_behind(self, cell):
        """Where what a cell holds comes to lie, None if it is lost."""
        if has_cell(self.rect, cell):
            return self.target[0], cell[1] + self.down, cell[2] + self.right
        return None if has_cell(self.target, cell) else cell

    def node_behind(self, node, rect):
        """What becomes of a reference node that means a rectangle: a pair of the node and the number of its sheet."""
        if not is_within(rect, self.rect):
            return (REF if is_within(rect, self.target) else node), rect[0]
        if node[0] != "area":
            return (node[0], self._moved(node[1])), self.target[0]
        area = node[1]
        return ("area", Area(self._moved(area.first), self._moved(area.last), whole=area.whole)), self.target[0]

    def _moved(self, address):
        """An Address so many rows and columns on."""
        return placed(address, address.row + self.down, address.column + self.right)


def edit_book(book, edit):
    """Makes the cells of a Book hold what an edit tells; references follow."""
    held = book.held
    setting = Setting(held.tabs, {})
    contents = {}
    texts = {}
    for cell, content in held.contents.items():
        fresh = edit.cell_behind(cell)
        if fresh is None:
            continue
        told = content
        if isinstance(content, tuple):
            told = _followed(setting, edit, content, (cell[0], fresh[0]))
        contents[fresh] = told
        texts[fresh] = held.texts[cell] if told == content else tree_text(told)
    named = {name: _followed(setting, edit, formula, (0, 0)) for name, formula in held.named.items()}
    name_texts = {name: tree_text(formula)[1:] for name, formula in named.items()}
    put_held(book, Holding(held.tabs, contents, texts, named, name_texts))


def _followed(setting, edit, formula, sheets):
    """A formula behind an edit; sheets are the numbers of the sheet of its cell ahead of it and behind it."""
    nodes = nodes_of(formula)
    if not nodes:
        return formula
    return with_nodes(formula, [_node_behind(setting, edit, node, sheets) for node in nodes])


def _node_behind(setting, edit, node, sheets):
    """A reference node behind an edit."""
    rect = rect_of_node(node, sheets[0], setting)
    if rect is None:
        return node
    fresh, sheet = edit.node_behind(node, rect)
    if fresh == REF:
        return REF
    is_named = node[1].sheet is not None
    if (is_named and sheet == rect[0]) or (not is_named and sheet == sheets[1]):
        return fresh
    return on_sheet(fresh, setting.tabs[sheet])


def rect_at(book, text):
    """The rectangle that the text of an area tells; without a sheet it lies on the first one."""
    area = read_area(text)
    return rect_of(area, sheet_at(book, area.sheet))
