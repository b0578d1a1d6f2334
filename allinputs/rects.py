"""Rectangles of cells: tuples (sheet, top, left, bottom, right); and cells: tuples (sheet, row, column).

A sheet is told by its number in the book from 0 on, so cells and rectangles are in order as tuples are.
"""

from allinputs.addresses import COLUMNS, ROWS

# Rectangles of at most so many cells are kept cell by cell, greater ones as they are.
MOST_NEAR = 32


def has_cell(rect, cell):
    """Whether a cell lies in a rectangle."""
    sheet, top, left, bottom, right = rect
    return sheet == cell[0] and top <= cell[1] <= bottom and left <= cell[2] <= right


def many_cells(rect):
    """How many cells a rectangle has."""
    return (rect[3] - rect[1] + 1) * (rect[4] - rect[2] + 1)


def cells_of(rect):
    """The list of the cells of a rectangle, row by row."""
    sheet, top, left, bottom, right = rect
    return [(sheet, row, column) for row in range(top, bottom + 1) for column in range(left, right + 1)]


def met_rect(one, other):
    """The rectangle of the cells in common, None if there are none."""
    top, left = max(one[1], other[1]), max(one[2], other[2])
    bottom, right = min(one[3], other[3]), min(one[4], other[4])
    if one[0] != other[0] or top > bottom or left > right:
        return None
    return one[0], top, left, bottom, right


def is_within(rect, outer):
    """Whether all cells of a rectangle lie in another one."""
    return (
        rect[0] == outer[0] and rect[1] >= outer[1] and rect[2] >= outer[2] and rect[3] <= outer[3]
        and rect[4] <= outer[4]
    )


def rect_from(cell, height, width):
    """The rectangle of a height and a width that begins at a cell, cut at the edges of the sheet."""
    sheet, row, column = cell
    return sheet, row, column, min(ROWS, row + height - 1), min(COLUMNS, column + width - 1)


def rect_of(area, sheet):
    """The rectangle of an Area on a sheet, told by its number."""
    return sheet, area.first.row, area.first.column, area.last.row, area.last.column


def cells_held_in(rect, held):
    """The list of the cells of a rectangle that are keys of a dict."""
    if many_cells(rect) > len(held):
        return [cell for cell in held if has_cell(rect, cell)]
    return [cell for cell in cells_of(rect) if cell in held]


def has_other(rect, held):
    """Whether a rectangle has a cell that is no key of a dict."""
    sheet, top, left, bottom, right = rect
    if many_cells(rect) > len(held):
        return True
    for row in range(top, bottom + 1):
        for column in range(left, right + 1):
            if (sheet, row, column) not in held:
                return True
    return False


class RectIndex:
    """Rectangles, each with a key: the lesser ones are kept by each of their cells, too.

    Three dicts to the tuples of their keys: near from the cells of the lesser ones, far from the greater ones, whole
    from all of them.
    """

    def __init__(self, near, far, whole):
        self.near = near
        self.far = far
        self.whole = whole

    def keys_at(self, cell):
        """A list of the keys of the rectangles in which a cell lies, maybe some twice."""
        found = list(self.near.get(cell, ()))
        own, row, column = cell
        # There may be many greater rectangles, so each is looked at without a call.
        for (sheet, top, left, bottom, right), keys in self.far.items():
            if top <= row <= bottom and left <= column <= right and sheet == own:
                found.extend(keys)
        return found

    def keys_beside(self, rect, held):
        """A list of the keys of the rectangles that share a cell with another one that is no key of a dict."""
        if many_cells(rect) > MOST_NEAR:
            return _keys_sharing(self.whole, rect, held)
        found = []
        for cell in cells_of(rect):
            if cell not in held:
                found.extend(self.near.get(cell, ()))
        return found + _keys_sharing(self.far, rect, held)

    def changed(self, changes):
        """The index behind some changes, triples of a key, its rectangles ahead and those behind them."""
        if not changes:
            return self
        near = _table_behind(self.near, [(key, _near_cells(old), _near_cells(fresh)) for key, old, fresh in changes])
        far = _table_behind(self.far, [(key, _far_rects(old), _far_rects(fresh)) for key, old, fresh in changes])
        return RectIndex(near, far, _table_behind(self.whole, changes))


def _keys_sharing(table, rect, held):
    """A list of the keys of a dict's rectangles that share a cell with another one that is no key of held."""
    sheet, top, left, bottom, right = rect
    found = []
    for other, keys in table.items():
        # Most have no cell in common, and this is told soonest without a call.
        if other[1] <= bottom and top <= other[3] and other[2] <= right and left <= other[4] and other[0] == sheet:
            if has_other(met_rect(rect, other), held):
                found.extend(keys)
    return found


def _table_behind(table, changes):
    """A dict of tuples of keys behind some changes, triples of a key, its places ahead and those behind them."""
    told = {place: table[place] for place in table}
    gone = _keys_by_place([(key, old) for key, old, _ in changes])
    for place in gone:
        lost = {key: True for key in gone[place]}
        told[place] = tuple([key for key in told[place] if key not in lost])
    added = _keys_by_place([(key, fresh) for key, _, fresh in changes])
    for place in added:
        told[place] = told.get(place, ()) + tuple(added[place])
    for place in gone:
        if not told[place]:
            del told[place]
    return told


def _keys_by_place(pairs):
    """A dict from places to the lists of the keys that are told with them; of pairs of a key and its places."""
    found = {}
    for key, places in pairs:
        for place in places:
            found.setdefault(place, []).append(key)
    return found


def _near_cells(rects):
    """The list of the cells of all lesser rectangles, each cell once."""
    found = {}
    for rect in rects:
        if many_cells(rect) <= MOST_NEAR:
            for cell in cells_of(rect):
                found[cell] = True
    return list(found)


def _far_rects(rects):
    """The list of all greater rectangles, each once."""
    return list({rect: True for rect in rects if many_cells(rect) > MOST_NEAR})
