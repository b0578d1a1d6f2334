"""Calls of functions, written shortly: integers stand for Ratios, lists of rows for Grids, "#NA" for faults."""

from allinputs.functions import call
from allinputs.grids import Grid
from allinputs.ratios import Ratio
from allinputs.values import FAULT_KINDS, Fault, same


def thing(told):
    """The value or Grid that is told."""
    if isinstance(told, int) and not isinstance(told, bool):
        return Ratio(told)
    if isinstance(told, str) and told[:1] == "#" and told[1:] in FAULT_KINDS:
        return Fault(told[1:])
    if isinstance(told, list):
        return Grid([[thing(value) for value in (row if isinstance(row, list) else [row])] for row in told])
    return told


def result(name, *arguments):
    """What a function tells for arguments."""
    return call(name, [thing(argument) for argument in arguments])


def alike(one, other):
    """Whether two results are the same: values, or grids of the same values without a corner."""
    if isinstance(one, Grid) or isinstance(other, Grid):
        if not isinstance(one, Grid) or not isinstance(other, Grid) or one.corner is not None:
            return False
        return (one.height, one.width) == (other.height, other.width) and all(
            same(value, peer) for value, peer in zip(one.cells(), other.cells()))
    return same(one, other)


def shown(told):
    """A result, to be read in a message."""
    return [[str(value) for value in row] for row in told.rows] if isinstance(told, Grid) else repr(told)


class Calls:
    """Checks of results, for test cases."""

    def tells(self, expected, name, *arguments):
        """A function tells just this."""
        found = result(name, *arguments)
        self.assertTrue(alike(found, thing(expected)), f"{name}{arguments}: {shown(found)}, not {expected}")
