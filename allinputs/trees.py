"""Formulas as trees of tuples."""

from allinputs.addresses import Address, placed
from allinputs.areas import Area
from allinputs.checks import check_integer, check_list
from allinputs.errors import BadValue
from allinputs.ordering import small_letters
from allinputs.ratios import Ratio
from allinputs.values import FAULT_KINDS, Fault, is_text
from allinputs.wholes import whole_power
from allinputs.words import is_name, is_word

MOST_HEIGHT = 60

# The operators between two formulas: the greater the level, the tighter they bind.
LEVELS = {
    "=": 1, "<>": 1, "<": 1, ">": 1, "<=": 1, ">=": 1, "&": 2, "+": 3, "-": 3, "*": 4, "/": 4, "^": 5,
}

REFERENCES = ("cell", "spill", "area", "name")

BLANK = ("blank",)


def is_formula(value):
    """Whether anything is a formula."""
    return _is_formula(value, MOST_HEIGHT)


def check_formula(value):
    """A formula."""
    if not is_formula(value):
        raise BadValue(value)


def height(formula):
    """1 for a formula without parts, otherwise one more than the height of its highest part."""
    check_formula(formula)
    return _height_of(formula)


def references(formula):
    """The list of the reference nodes of a formula, in the order of its text."""
    check_formula(formula)
    return nodes_of(formula)


def with_references(formula, nodes):
    """A formula with other nodes in the place of its references, in the order of its text."""
    check_formula(formula)
    check_list(nodes)
    for node in nodes:
        if not _is_node(node):
            raise BadValue(node)
    if len(nodes) != len(nodes_of(formula)):
        raise BadValue(nodes)
    return with_nodes(formula, nodes)


def moved(formula, rows, columns):
    """A formula whose references are so many rows and columns on, as far as they are not fixed."""
    check_formula(formula)
    check_integer(rows)
    check_integer(columns)
    return moved_tree(formula, rows, columns)


def moved_tree(formula, rows, columns):
    """What moved tells, of what is known to be a formula."""
    return with_nodes(formula, [_moved_node(node, rows, columns) for node in nodes_of(formula)])


def parts_of(formula):
    """The tuple of the parts of a formula, in the order of its text."""
    if formula[0] == "call":
        return formula[2]
    if formula[0] in ("minus", "plus") or formula[0] in LEVELS:
        return formula[1:]
    return ()


def nodes_of(formula):
    """The list of the reference nodes of a formula."""
    if formula[0] in REFERENCES:
        return [formula]
    return [node for part in parts_of(formula) for node in nodes_of(part)]


def with_nodes(formula, nodes):
    """A formula with as many other nodes in the place of its references."""
    return _replaced(formula, nodes, 0)[0]


def _replaced(formula, nodes, start):
    """A formula with the nodes from a place on in the place of its references, and the place behind these."""
    if formula[0] in REFERENCES:
        return nodes[start], start + 1
    parts = []
    at = start
    for part in parts_of(formula):
        fresh, at = _replaced(part, nodes, at)
        parts.append(fresh)
    if at == start:
        return formula, at
    if formula[0] == "call":
        return ("call", formula[1], tuple(parts)), at
    return (formula[0],) + tuple(parts), at


def _moved_node(node, rows, columns):
    """A reference node so many rows and columns on; REF if a corner of it comes off the grid."""
    if node[0] == "name":
        return node
    if node[0] != "area":
        fresh = _moved_corner(node[1], rows, columns)
        return ("fault", "REF") if fresh is None else (node[0], fresh)
    area = node[1]
    down = 0 if area.whole == "columns" else rows
    right = 0 if area.whole == "rows" else columns
    first, last = _moved_corner(area.first, down, right), _moved_corner(area.last, down, right)
    if first is None or last is None:
        return ("fault", "REF")
    return ("area", Area(first, last, whole=area.whole))


def _moved_corner(address, rows, columns):
    """An Address so many rows and columns on, as far as these are not fixed; None off the grid."""
    return placed(
        address,
        address.row if address.fixed_row else address.row + rows,
        address.column if address.fixed_column else address.column + columns,
    )


def _height_of(formula):
    """The height of what is known to be a formula."""
    return 1 + max([0] + [_height_of(part) for part in parts_of(formula)])


def _is_node(value):
    """Whether something may stand in the place of a reference."""
    return is_formula(value) and (value[0] in REFERENCES or value[0] == "fault")


def _is_formula(value, most):
    """Whether something is a formula of at most a height."""
    if not isinstance(value, tuple) or len(value) not in (2, 3) or not isinstance(value[0], str) or most < 1:
        return False
    if len(value) == 2:
        return _is_leaf(value[0], value[1]) or (
            value[0] in ("minus", "plus") and _is_formula(value[1], most - 1))
    if value[0] == "call":
        return _is_head(value[1]) and _are_arguments(value[2], most - 1)
    return value[0] in LEVELS and _is_formula(value[1], most - 1) and _is_formula(value[2], most - 1)


def _is_leaf(word, thing):
    """Whether a word and what is told with it are a formula without parts, no call."""
    if word == "number":
        return _is_decimal(thing) and thing.sign() >= 0
    if word == "text":
        return is_text(thing)
    if word == "truth":
        return isinstance(thing, bool)
    if word == "fault":
        return isinstance(thing, str) and thing in FAULT_KINDS
    if word in ("cell", "spill"):
        return isinstance(thing, Address)
    if word == "area":
        return isinstance(thing, Area)
    if word == "name":
        return isinstance(thing, str) and is_name(thing) and small_letters(thing) == thing
    return word == "array" and _is_array(thing)


def _is_decimal(thing):
    """Whether something is a Ratio whose decimals end."""
    if not isinstance(thing, Ratio):
        return False
    return thing.bottom == 1 or whole_power(10, thing.bottom.bit_length()) % thing.bottom == 0


def _is_head(word):
    """Whether something is the head of a call, in capitals."""
    return isinstance(word, str) and is_word(word) and word.upper() == word


def _are_arguments(parts, most):
    """Whether something is a tuple of arguments of at most a height."""
    if not isinstance(parts, tuple) or parts == (BLANK,):
        return False
    return all([_is_argument(part, most) for part in parts])


def _is_argument(part, most):
    """Whether something is a formula of at most a height, or an empty argument."""
    if isinstance(part, tuple) and len(part) == 1:
        return isinstance(part[0], str) and part[0] == "blank" and most >= 1
    return _is_formula(part, most)


def _is_array(rows):
    """Whether something is a tuple of rows of one length of entries of an array."""
    if not isinstance(rows, tuple) or len(rows) == 0:
        return False
    for row in rows:
        if not isinstance(row, tuple) or len(row) == 0 or len(row) != len(rows[0]):
            return False
    return all([_is_entry(value) for row in rows for value in row])


def _is_entry(value):
    """Whether something is an entry of an array."""
    return isinstance(value, (bool, Fault)) or is_text(value) or _is_decimal(value)
