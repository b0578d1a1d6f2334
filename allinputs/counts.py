"""Functions: sums and counts by criteria."""

from allinputs.criteria import criterion_of, is_met
from allinputs.grids import grid_of
from allinputs.places import first_fault
from allinputs.ratios import Ratio
from allinputs.totals import average_of, greatest_of, least_of, sum_of_numbers
from allinputs.values import Fault, is_number


def _chosen(pairs, peer):
    """The list of the numbers of the places at which each grid's value meets the criterion behind the grid.

    The fault VALUE if the grids, and a peer of them, are not of one size.
    """
    grids = [grid_of(pairs[at]) for at in range(0, len(pairs), 2)]
    for grid in grids + [peer]:
        if grid.height != grids[0].height or grid.width != grids[0].width:
            return Fault("VALUE")
    chosen = list(range(grids[0].height * grids[0].width))
    for step, grid in enumerate(grids):
        values, criterion = grid.cells(), criterion_of(pairs[2 * step + 1])
        chosen = [at for at in chosen if is_met(values[at], criterion)]
    return chosen


def _many(things):
    """How many places are chosen."""
    fault = first_fault(things)
    if fault is not None:
        return fault
    chosen = _chosen(things, grid_of(things[0]))
    return chosen if isinstance(chosen, Fault) else Ratio(len(chosen))


def _of_chosen(things, pairs, measured, action):
    """What a function tells for the numbers of a grid at the chosen places, the first Fault there ahead of it."""
    fault = first_fault(things)
    if fault is not None:
        return fault
    grid = grid_of(measured)
    chosen = _chosen(pairs, grid)
    if isinstance(chosen, Fault):
        return chosen
    cells = grid.cells()
    found = [cells[at] for at in chosen]
    fault = first_fault(found)
    return action([value for value in found if is_number(value)]) if fault is None else fault


def _sum_if(things):
    """SUMIF."""
    return _of_chosen(things, things[:2], things[-1] if len(things) > 2 else things[0], sum_of_numbers)


def _average_if(things):
    """AVERAGEIF."""
    return _of_chosen(things, things[:2], things[-1] if len(things) > 2 else things[0], average_of)


def _sum_ifs(things):
    """SUMIFS."""
    return _of_chosen(things, things[1:], things[0], sum_of_numbers)


def _least_ifs(things):
    """MINIFS."""
    return _of_chosen(things, things[1:], things[0], least_of)


def _greatest_ifs(things):
    """MAXIFS."""
    return _of_chosen(things, things[1:], things[0], greatest_of)


COUNTS = {
    "COUNTIF": _many, "COUNTIFS": _many, "SUMIF": _sum_if, "AVERAGEIF": _average_if, "SUMIFS": _sum_ifs,
    "MINIFS": _least_ifs, "MAXIFS": _greatest_ifs,
}
