"""Arguments of functions: their faults, and what they are turned into."""

from allinputs.grids import Grid, grid_of
from allinputs.ratios import Ratio
from allinputs.turning import to_number, to_text, to_truth
from allinputs.values import MOST_CHARACTERS, Fault, compare_numbers


def first_fault(things):
    """The first of some values and grids that is a Fault, None if there is none."""
    for thing in things:
        if isinstance(thing, Fault):
            return thing
    return None


def first_fault_within(things):
    """The same, also within the grids, row by row."""
    for thing in things:
        found = first_fault(thing.cells()) if isinstance(thing, Grid) else first_fault([thing])
        if found is not None:
            return found
    return None


def turned_places(letters, arguments):
    """The list of the arguments, turned as the letters of their places tell, or the first Fault that comes out."""
    told = []
    for letter, thing in zip(letters, arguments):
        fresh = _turned(letter, thing)
        if letter not in "abvw" and isinstance(fresh, Fault):
            return fresh
        told.append(fresh)
    return told


def ready(letters, arguments):
    """The list of the arguments, turned; or the Fault that is the result of a call instead."""
    fault = first_fault(arguments)
    return turned_places(letters, arguments) if fault is None else fault


def _turned(letter, thing):
    """An argument, turned into what the letter of its place asks for."""
    if letter in "xyijkd":
        return to_number(thing)
    if letter in "stu":
        return to_text(thing)
    if letter == "p":
        return to_truth(thing)
    return grid_of(thing) if letter in "gh" else thing


def whole_within(number, least, most):
    """The whole part of a number; one less than the least for all below it, the greatest for all from it on."""
    if compare_numbers(number, Ratio(least)) < 0:
        return least - 1
    if compare_numbers(number, Ratio(most)) >= 0:
        return most
    return number.floor()


def given(things, at, otherwise):
    """The argument at a place, or another one if it is left out."""
    return things[at] if at < len(things) else otherwise


def text_told(text):
    """A text as it is, the fault VALUE for one that is too long."""
    return Fault("VALUE") if len(text) > MOST_CHARACTERS else text
