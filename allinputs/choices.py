"""Functions: choices, which need some of their arguments alone, and truths."""

from allinputs.checks import is_integer
from allinputs.grids import Grid
from allinputs.ordering import known_order
from allinputs.places import first_fault, first_fault_within, whole_within
from allinputs.turning import to_number, to_truth
from allinputs.values import Fault, is_number, kind_of

CHOOSING = ("IF", "IFS", "CHOOSE", "SWITCH", "IFERROR", "IFNA")


def next_needed(name, many, known):
    """The number of the argument that a choice needs next, of those not known yet; None if its result is told."""
    step = _STEPS[name]
    told = step(many, known)
    return told if is_integer(told) and told not in known else None


def chosen(name, many, known):
    """What a choice tells, if all arguments are known that it needs: one of these, or a Fault, or a truth.

    A Grid is told without its corner.
    """
    step = _STEPS[name]
    told = step(many, known)
    thing = known[told] if is_integer(told) else told
    return Grid(thing.rows) if isinstance(thing, Grid) else thing


def _if_step(many, known):
    """The number of an argument that is needed, in the order of need; the last one is the result.

    If the result is no argument, it is told itself: a Fault or a truth.
    """
    if 0 not in known:
        return 0
    truth = to_truth(known[0])
    if isinstance(truth, Fault):
        return truth
    if truth:
        return 1
    return 2 if many > 2 else False


def _ifs_step(many, known):
    """As above: for pairs of a truth and a result."""
    for at in range(0, many, 2):
        if at not in known:
            return at
        truth = to_truth(known[at])
        if isinstance(truth, Fault):
            return truth
        if truth:
            return at + 1
    return Fault("NA")


def _choose_step(many, known):
    """As above: for a number and the results that it counts."""
    if 0 not in known:
        return 0
    number = to_number(known[0])
    if isinstance(number, Fault):
        return number
    at = whole_within(number, 1, many)
    return Fault("VALUE") if at < 1 or at >= many else at


def _switch_step(many, known):
    """As above: for a value, pairs of a value and a result, and maybe a result for all others."""
    for at in [0] + list(range(1, many - 1, 2)):
        if at not in known:
            return at
        if isinstance(known[at], Fault):
            return known[at]
        if at > 0 and known_order(known[0], known[at]) == 0:
            return at + 1
    return Fault("NA") if many % 2 == 1 else many - 1


def _if_error_step(_, known):
    """As above: for a value, and the result if it is a fault."""
    return 1 if 0 in known and isinstance(known[0], Fault) else 0


def _if_none_step(_, known):
    """As above: for a value, and the result if it is the fault NA."""
    return 1 if 0 in known and isinstance(known[0], Fault) and known[0].kind == "NA" else 0


_STEPS = {
    "IF": _if_step, "IFS": _ifs_step, "CHOOSE": _choose_step, "SWITCH": _switch_step, "IFERROR": _if_error_step,
    "IFNA": _if_none_step,
}


def _truths_of(things):
    """The list of the truths that wide arguments hold, or a Fault: VALUE if there is none."""
    fault = first_fault_within(things)
    if fault is not None:
        return fault
    found = []
    for thing in things:
        if isinstance(thing, Grid):
            found.extend([to_truth(value) for value in thing.cells() if isinstance(value, bool) or is_number(value)])
        else:
            found.append(to_truth(thing))
    fault = first_fault(found)
    if fault is None and not found:
        return Fault("VALUE")
    return found if fault is None else fault


def _all_hold(things):
    """AND."""
    truths = _truths_of(things)
    return truths if isinstance(truths, Fault) else all(truths)


def _any_holds(things):
    """OR."""
    truths = _truths_of(things)
    return truths if isinstance(truths, Fault) else any(truths)


def _odd_hold(things):
    """XOR."""
    truths = _truths_of(things)
    return truths if isinstance(truths, Fault) else len([truth for truth in truths if truth]) % 2 == 1


def _not(things):
    """NOT."""
    truth = to_truth(things[0])
    return truth if isinstance(truth, Fault) else not truth


def _is_fault(things):
    """ISERROR."""
    return isinstance(things[0], Fault)


def _is_none(things):
    """ISNA."""
    return isinstance(things[0], Fault) and things[0].kind == "NA"


def _is_number(things):
    """ISNUMBER."""
    return is_number(things[0])


def _is_text(things):
    """ISTEXT."""
    return kind_of(things[0]) == "text"


def _is_truth(things):
    """ISLOGICAL."""
    return kind_of(things[0]) == "truth"


def _is_blank(things):
    """ISBLANK."""
    return things[0] is None


def _none(_):
    """NA."""
    return Fault("NA")


TRUTHS = {
    "AND": _all_hold, "OR": _any_holds, "XOR": _odd_hold, "NOT": _not, "ISERROR": _is_fault, "ISNA": _is_none,
    "ISNUMBER": _is_number, "ISTEXT": _is_text, "ISLOGICAL": _is_truth, "ISBLANK": _is_blank, "NA": _none,
}
