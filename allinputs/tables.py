"""Tables of what cells are for told numbers in the free cell, and where they turn."""

from allinputs.book import cell_at
from allinputs.checks import check_list, check_string
from allinputs.ratios import as_ratio
from allinputs.rowparts import Edge
from allinputs.told import check_told, value_in_parts


def what_if(told, cells, ratios):
    """For each ratio the list of the values of some cells."""
    check_told(told)
    check_list(cells)
    for cell in cells:
        check_string(cell)
    check_list(ratios)
    for ratio in ratios:
        told.check_ratio(ratio)
    asked = [cell_at(told.book, cell) for cell in cells]
    rows = [told.parts_of(cell) for cell in asked]
    return [[value_in_parts(row, as_ratio(ratio)) for row in rows] for ratio in ratios]


def steps_of(told, cell):
    """The tuple of the points of the Edges of a cell."""
    check_told(told)
    check_string(cell)
    return tuple([part.point for part in told.pieces(cell) if isinstance(part, Edge)])
