"""Rings: single cells, and the numbers at which they are at rest."""

from allinputs.bonds import turned_about
from allinputs.book import cell_asked, cell_at, check_book, mesh_of, place_of, state_of
from allinputs.chains import rings_among
from allinputs.checks import check_string
from allinputs.curves import Curve
from allinputs.errors import BadValue, NotTold, TooHigh
from allinputs.evaluating import Worker
from allinputs.grids import Grid
from allinputs.holdings import held_with
from allinputs.marks import Ruler, x_curve
from allinputs.points import Point, check_ends
from allinputs.polys import Poly
from allinputs.ratios import Ratio, as_ratio, is_ratio
from allinputs.reaches import ALONE
from allinputs.rowparts import Edge
from allinputs.rows import is_worth, told_parts, x_row
from allinputs.states import fresh_state, not_blank
from allinputs.stretches import joined, places_of_poly
from allinputs.tracks import Tracks
from allinputs.wholes import MOST_DIGITS


def is_single(book, place):
    """Whether a cell is single: in a ring that it alone keeps together."""
    return _ring_of_single(book, cell_asked(book, place)) is not None


def rests(book, place, low=None, high=None):
    """All rests of a single cell in a range."""
    check_book(book)
    check_string(place)
    check_ends(low, high)
    cell = cell_at(book, place)
    if _ring_of_single(book, cell) is None:
        raise NotTold()
    ruler = Ruler(low, high)
    placed = {cell: (book.held.contents[cell], mesh_of(book).sights[cell])}
    tracks = Tracks(state_of(book), _cut_mesh(book, cell), ruler, [cell], placed)
    tracks.hold(cell, x_row(ruler))
    return joined(_rests_in(told_parts(ruler, tracks.placed_row(cell))))


def values_at_rest(book, place, ratio):
    """A dict from the places of the cells in the ring of a single cell to their values while it holds a rest."""
    check_book(book)
    check_string(place)
    if not is_ratio(ratio):
        raise BadValue(ratio)
    cell = cell_at(book, place)
    ring = _ring_of_single(book, cell)
    if ring is None:
        raise NotTold()
    number = as_ratio(ratio)
    held = held_with(book.held, {cell: number})
    held.mesh_by(book.held)
    state = fresh_state(held)
    told = _told_in_place(state, book.held.contents[cell], cell, mesh_of(book).sights[cell])
    if not isinstance(told, Ratio) or told != number:
        raise BadValue(ratio)
    return {place_of(book, other): state.known[other] for other in ring}


def _ring_of_single(book, cell):
    """The list of the cells in the ring of a single cell, None if the cell is not single."""
    mesh = mesh_of(book)
    if cell not in mesh.sights or mesh.size_at(cell) != ALONE:
        return None
    if cell not in mesh.sequence().ringed:
        return None
    cut = _cut_mesh(book, cell)
    ringed = cut.sequence().ringed
    sources = turned_about({other: cut.hanging_on(other) for other in cut.sights})
    queue = list(cut.formulas_seen(mesh.sights[cell].areas))
    seen = {}
    while queue:
        other = queue.pop()
        if other in ringed:
            return None
        if other not in seen:
            seen[other] = True
            queue.extend(sources.get(other, ()))
    return [ring for ring in rings_among({other: mesh.hanging_on(other) for other in mesh.sights}) if cell in ring][0]


def _cut_mesh(book, cell):
    """The Mesh of a book in which a cell holds a number."""
    return held_with(book.held, {cell: Ratio(0)}).mesh_by(book.held)


def _told_in_place(state, formula, cell, sight):
    """What a formula tells in a cell that holds a number in its place; TooHigh if it has no value."""
    mesh = state.held.mesh_by(None)
    if any([other in state.failed for other in mesh.formulas_seen(sight.areas)]):
        raise TooHigh(MOST_DIGITS)
    thing = Worker(mesh, state.known, state.spills).result_of(formula, cell, sight)
    return not_blank(thing.rows[0][0] if isinstance(thing, Grid) else thing)


def _rests_in(parts):
    """The list of the rests in the told row of the formula of a cell by what the cell holds."""
    found = []
    for part in parts:
        value = part.value
        if isinstance(part, Edge):
            if _is_at(value, part.point):
                found.append(part.point)
        elif isinstance(value, Curve):
            if value == x_curve():
                found.append(part.span)
            else:
                found.extend(places_of_poly(value.top - value.bottom * Poly([0, 1]), part.span))
        elif isinstance(value, Ratio) and part.span.has(value):
            found.append(value)
    return found


def _is_at(value, point):
    """Whether a value is the number at which it is told."""
    if isinstance(point, Point):
        return is_worth(x_curve(), value, point)
    return isinstance(value, Ratio) and value == point
