"""Sights: what the formula of a cell sees."""

from allinputs.rects import rect_of
from allinputs.trees import nodes_of


class Sight:
    """What a formula on a sheet sees: rectangles, whole columns and whole rows among these, and names.

    The whole columns are rectangles, too; spills are the cells whose spills are written in it or in its names.
    """

    def __init__(self, formula, sheet, setting):
        own = nodes_of(formula)
        self.used = setting.used_in(own)
        nodes = own + [node for name in self.used for node in setting.nodes.get(name, ())]
        areas = {}
        self.columns = []
        self.rows = []
        self.is_trailing = False
        for node in nodes:
            rect = rect_of_node(node, sheet, setting)
            self.is_trailing = self.is_trailing or node[0] == "spill"
            if rect is not None:
                areas[rect] = True
                if node[0] == "area" and node[1].whole == "columns":
                    self.columns.append(rect)
                if node[0] == "area" and node[1].whole == "rows":
                    self.rows.append(rect)
        self.areas = tuple(areas)


def rect_of_node(node, sheet, setting):
    """The rectangle that a reference node means in a formula on a sheet; None for a name, or without its sheet."""
    if node[0] == "name":
        return None
    tab = setting.tab_of(node[1].sheet, sheet)
    if tab is None:
        return None
    if node[0] == "area":
        return rect_of(node[1], tab)
    return tab, node[1].row, node[1].column, node[1].row, node[1].column
