"""Rings that are gone round, for all numbers at the beginning."""

from allinputs.book import cell_at, check_book, mesh_of, state_of
from allinputs.checks import check_range, check_string
from allinputs.errors import BadValue
from allinputs.holdings import held_with
from allinputs.marks import Ruler
from allinputs.points import check_ends
from allinputs.ratios import Ratio
from allinputs.rounds import begin_of, check_gone_round, is_begin, mesh_without, placed_formulas
from allinputs.rows import are_alike_rows, level_row, told_parts, x_row
from allinputs.tracks import Tracks

MOST_ROUNDS = 20


def rounds_row(book, begin, free, cell, many, low=None, high=None):
    """The told row of a cell behind so many rounds, for all numbers in a free cell at the beginning."""
    check_book(book)
    if not is_begin(begin):
        raise BadValue(begin)
    check_string(free)
    check_string(cell)
    check_range(many, 0, MOST_ROUNDS)
    check_ends(low, high)
    free_cell, asked = cell_at(book, free), cell_at(book, cell)
    held = book.held
    mesh = mesh_of(book)
    placed = placed_formulas(mesh)
    if free_cell not in placed:
        # A free cell in no ring holds a number from the beginning on, and there may be other rings then.
        held = held_with(held, {free_cell: Ratio(0)})
        mesh = held.mesh_by(book.held)
        placed = placed_formulas(mesh)
    numbers = begin_of(book, begin)
    if numbers is None or free_cell in numbers or any([other not in placed for other in numbers]):
        raise BadValue(begin)
    check_gone_round(mesh, placed)
    ruler = Ruler(low, high)
    ringed = sorted(list(placed))
    holders = list({other: True for other in ringed + [free_cell]})
    tracks = Tracks(state_of(book), mesh_without(held, placed), ruler, holders, placed)
    for other in ringed:
        tracks.hold(other, level_row(numbers.get(other, Ratio(0))))
    tracks.hold(free_cell, x_row(ruler))
    _go_rounds(tracks, ringed, many)
    return told_parts(ruler, tracks.value_row(asked))


def _go_rounds(tracks, ringed, many):
    """Lets the cells in rings hold what they tell behind so many rounds."""
    waiting = {cell: True for cell in ringed}
    for _ in range(many):
        for cell in ringed:
            if cell in waiting:
                row = tracks.placed_row(cell)
                del waiting[cell]
                if not are_alike_rows(row, tracks.rows[cell]):
                    for other in tracks.hold(cell, row):
                        waiting[other] = True
