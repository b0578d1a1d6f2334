"""Arguments of functions: their faults, and what they are turned into."""

from allinputs.grids import Grid, grid_of
from allinputs.ratios import Ratio
from allinputs.turning import to_number, to_text, to_truth
from allinputs.values import MOST_CHARACTERS, Fault, compare_numbers, is_number


def first_fault(things):
    """The first of some values and grids that is a Fault, None if there is none."""
    for thing in things:
        if isinstance(thing, Fault):
            return thing
    return None


def first_fault_within(things):
    """The same, also within the grids, row by row."""
    for thing in things:
        found = first_fault(thing.cells()) if isinstance(thing, Grid) else first_fault([thing])
        if found is not None:
            return found
    return None


def turned_places(letters, arguments):
    """The list of the arguments, turned as the letters of their places tell, or the first Fault that comes out.

    Only the fault VALUE comes out of turning. So texts are turned last: a call does not need the text of a number
    if another argument leads to this fault anyway.
    """
    fresh = [_turned(letter, thing) for letter, thing in zip(letters, arguments)]
    fault = first_fault([thing for letter, thing in zip(letters, fresh) if letter not in "abvw"])
    if fault is not None:
        return fault
    texts = texts_of([thing for letter, thing in zip(letters, fresh) if letter in "stu"])
    if isinstance(texts, Fault):
        return texts
    told = []
    many = 0
    for letter, thing in zip(letters, fresh):
        told.append(texts[many] if letter in "stu" else thing)
        many = many + (1 if letter in "stu" else 0)
    return told


def ready(letters, arguments):
    """The list of the arguments, turned; or the Fault that is the result of a call instead."""
    fault = first_fault(arguments)
    return turned_places(letters, arguments) if fault is None else fault


def texts_of(values):
    """The list of the texts of some values, or the first Fault that comes out.

    A number that is no told ratio has no text that could be needed if another value leads to a fault.
    """
    told = [value if is_number(value) and not isinstance(value, Ratio) else to_text(value) for value in values]
    fault = first_fault(told)
    return [to_text(value) for value in told] if fault is None else fault


def _turned(letter, thing):
    """An argument, turned into a number, a truth or a grid if the letter of its place asks for it."""
    if letter in "xyijkd":
        return to_number(thing)
    if letter == "p":
        return to_truth(thing)
    return grid_of(thing) if letter in "gh" else thing


def whole_within(number, least, most):
    """The whole part of a number; one less than the least for all below it, the greatest for all from it on."""
    if compare_numbers(number, Ratio(least)) < 0:
        return least - 1
    if compare_numbers(number, Ratio(most)) >= 0:
        return most
    return number.floor()


def given(things, at, otherwise):
    """The argument at a place, or another one if it is left out."""
    return things[at] if at < len(things) else otherwise


def text_told(text):
    """A text as it is, the fault VALUE for one that is too long."""
    return Fault("VALUE") if len(text) > MOST_CHARACTERS else text
