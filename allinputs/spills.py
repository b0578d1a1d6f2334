"""How far formulas of a Book reach, and into which cells they spill."""

from allinputs.areas import area_between, area_text
from allinputs.book import cell_asked, mesh_of, place_of, state_of, value_in
from allinputs.rects import rect_from


def reach_at(book, place):
    """The pair (height, width) of the reach of the formula of a cell, not cut at the edges of the sheet."""
    cell = cell_asked(book, place)
    return mesh_of(book).size_at(cell)


def spill_area(book, place):
    """The text of the area into which the formula of a cell spills, None if it does not spill."""
    cell = cell_asked(book, place)
    value_in(book, cell)
    if cell not in state_of(book).spills:
        return None
    height, width = state_of(book).spills[cell]
    sheet, top, left, bottom, right = rect_from(cell, height, width)
    return area_text(area_between(top, left, bottom, right, book.held.tabs[sheet], None))


def spilled_from(book, place):
    """The place of the formula that spills into a cell that holds nothing, None if there is none."""
    cell = cell_asked(book, place)
    value_in(book, cell)
    owner = state_of(book).owners.get(cell)
    return None if owner is None else place_of(book, owner)
