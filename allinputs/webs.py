"""What the formulas of a Book see, and which ones hang on which ones."""

from allinputs.addresses import COLUMNS, ROWS
from allinputs.areas import area_between, area_text
from allinputs.book import cell_asked, check_book, mesh_of, places_of
from allinputs.chains import rings_among


def seen_by(book, place):
    """The tuple of the areas that the formula of a cell sees, as texts."""
    cell = cell_asked(book, place)
    sights = mesh_of(book).sights
    rects = sights[cell].areas if cell in sights else ()
    # In order are the sheets, then the first corners by rows and columns, then the last ones.
    return tuple([_rect_text(book, rect) for rect in sorted(list(rects))])


def hangs_on(book, place):
    """The tuple of the places of the formulas on which that of a cell hangs by one step."""
    cell = cell_asked(book, place)
    mesh = mesh_of(book)
    return places_of(book, sorted(mesh.hangs_on_cells(cell))) if cell in mesh.sights else ()


def fed_by(book, place):
    """The tuple of the places of the formulas that see a cell or hang on its formula."""
    cell = cell_asked(book, place)
    return places_of(book, sorted(mesh_of(book).hanging_on(cell)))


def rings(book):
    """The tuple of the tuples of the places of formulas in rings that lead to each other."""
    check_book(book)
    mesh = mesh_of(book)
    edges = {cell: mesh.hanging_on(cell) for cell in mesh.sights}
    return tuple([places_of(book, ring) for ring in rings_among(edges)])


def _rect_text(book, rect):
    """The text of a rectangle as an area, of all rows as whole columns, or of all columns as whole rows."""
    sheet, top, left, bottom, right = rect
    whole = "columns" if (top, bottom) == (1, ROWS) else "rows" if (left, right) == (1, COLUMNS) else None
    return area_text(area_between(top, left, bottom, right, book.held.tabs[sheet], whole))
