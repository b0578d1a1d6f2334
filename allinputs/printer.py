"""Formulas written as texts."""

from allinputs.addresses import address_text
from allinputs.areas import check_address, corner_text
from allinputs.trees import LEVELS, check_formula
from allinputs.values import Fault
from allinputs.wholes import digit_text, whole_power

# Signs ahead of a formula bind tighter than all operators, and what has no operator outside is never in brackets.
_AHEAD = 6

_ATOM = 7


def formula_text(formula):
    """The text of a formula."""
    check_formula(formula)
    return tree_text(formula)


def formula_relative(formula, base):
    """The text of a formula in the relative notation, seen from an Address."""
    check_formula(formula)
    check_address(base)
    return "=" + _told(formula, base)


def tree_text(formula):
    """The text of what is known to be a formula."""
    return "=" + _told(formula, None)


def _level_of(formula):
    """How tightly the operator outside of a formula binds."""
    if formula[0] in ("minus", "plus"):
        return _AHEAD
    return LEVELS.get(formula[0], _ATOM)


def _told(formula, base):
    """The text of a formula without "="; base is None for the notation by letters and digits."""
    word = formula[0]
    if word in LEVELS:
        level = LEVELS[word]
        return _within(formula[1], level, base) + word + _within(formula[2], level + 1, base)
    if word in ("minus", "plus"):
        return ("-" if word == "minus" else "+") + _within(formula[1], _AHEAD, base)
    if word == "call":
        return formula[1] + "(" + ",".join([_told(part, base) for part in formula[2]]) + ")"
    if word == "blank":
        return ""
    if word == "array":
        return "{" + ";".join([",".join([_entry_text(value) for value in row]) for row in formula[1]]) + "}"
    if word in ("cell", "spill"):
        return _cell_text(formula[1], base) + ("#" if word == "spill" else "")
    if word == "area":
        return _area_text(formula[1], base)
    if word == "fault":
        return f"#{formula[1]}"
    return formula[1] if word == "name" else _entry_text(formula[1])


def _within(formula, level, base):
    """The text of a part; in brackets if its operator binds less tightly than a level."""
    text = _told(formula, base)
    return f"({text})" if _level_of(formula) < level else text


def _entry_text(value):
    """The text of a number, a text, a truth or a fault."""
    if isinstance(value, bool):
        return "TRUE" if value else "FALSE"
    if isinstance(value, str):
        return "\"" + value.replace("\"", "\"\"") + "\""
    if isinstance(value, Fault):
        return f"#{value.kind}"
    return decimal_text(value)


def decimal_text(ratio):
    """The shortest decimals of a ratio whose decimals end."""
    if ratio.bottom == 1:
        return digit_text(ratio.top)
    places = _places_of(ratio.bottom)
    scale = whole_power(10, places)
    digits = digit_text(abs(ratio.top) * (scale // ratio.bottom)).zfill(places + 1)
    sign = "-" if ratio.top < 0 else ""
    return f"{sign}{digits[:-places]}.{digits[-places:]}"


def _places_of(bottom):
    """The least exponent of a power of 10 that an integer, which divides one, divides."""
    low, high = 0, bottom.bit_length()
    while low < high:
        middle = (low + high) // 2
        if whole_power(10, middle) % bottom == 0:
            high = middle
        else:
            low = middle + 1
    return low


def _sheet_ahead(sheet):
    """The name of a sheet and "!", "" for none."""
    return "" if sheet is None else f"{sheet}!"


def _cell_text(address, base):
    """The text of a cell."""
    if base is None:
        return address_text(address)
    return _sheet_ahead(address.sheet) + _relative_row(address, base) + _relative_column(address, base)


def _area_text(area, base):
    """The text of an area, with both corners."""
    corners = [_corner_text(corner, area.whole, base) for corner in (area.first, area.last)]
    return _sheet_ahead(area.sheet) + ":".join(corners)


def _corner_text(corner, whole, base):
    """The text of a corner of an area."""
    if base is None:
        return corner_text(corner, whole)
    row = "" if whole == "columns" else _relative_row(corner, base)
    return row + ("" if whole == "rows" else _relative_column(corner, base))


def _relative_row(address, base):
    """The row of an Address, seen from the base."""
    return "R" + _relative(address.row, address.fixed_row, base.row)


def _relative_column(address, base):
    """The column of an Address, seen from the base."""
    return "C" + _relative(address.column, address.fixed_column, base.column)


def _relative(number, is_fixed, seen_from):
    """A number if it is fixed, otherwise its difference from another one in brackets; nothing for none."""
    if is_fixed:
        return str(number)
    return "" if number == seen_from else f"[{number - seen_from}]"
