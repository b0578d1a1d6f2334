"""Reaches: the heights and widths that formulas may spill over, by what is written."""

from allinputs.sights import rect_of_node
from allinputs.signatures import is_function, is_taken, letters_for, sort_of_letter
from allinputs.trees import LEVELS, nodes_of

MOST_REACH = 10000

ALONE = (1, 1)


class Sizes:
    """The pairs (height, width) of formulas and names: those of cells by cells, those of names by names."""

    def __init__(self, setting, of_cells, of_names):
        self.setting = setting
        self.of_cells = of_cells
        self.of_names = of_names

    def size_of(self, formula, sheet):
        """The size of a formula on a sheet, by the sizes of names and cells as they are now."""
        word = formula[0]
        if word == "area":
            return min(MOST_REACH, formula[1].height), min(MOST_REACH, formula[1].width)
        if word == "array":
            return min(MOST_REACH, len(formula[1])), min(MOST_REACH, len(formula[1][0]))
        if word == "name":
            return self.of_names.get(formula[1], ALONE)
        if word == "spill":
            rect = rect_of_node(formula, sheet, self.setting)
            return ALONE if rect is None else self.of_cells.get(rect[:3], ALONE)
        if word in LEVELS or word in ("minus", "plus"):
            return _greatest([self.size_of(part, sheet) for part in formula[1:]])
        if word == "call" and is_function(formula[1]) and is_taken(formula[1], len(formula[2])):
            return _size_of_call(formula[1], formula[2], [self.size_of(part, sheet) for part in formula[2]])
        return ALONE


def name_sizes(setting):
    """The sizes of the names of a setting, spill references counting as one cell."""
    sizes = Sizes(setting, {}, {})
    return _settled(sizes, {("name", name): (formula, 0) for name, formula in setting.named.items()}).of_names


def trailing_sizes(setting, formulas, of_cells, of_names):
    """The sizes of some formulas, and of the names with spill references, by those of all others: the least ones.

    formulas is a dict from cells to their formulas; the others' sizes are told by dicts. A dict of all of cells.
    """
    parts = {cell: (formula, cell[0]) for cell, formula in formulas.items()}
    for name in setting.spilling:
        parts[("name", name)] = (setting.named[name], 0)
    return _settled(Sizes(setting, of_cells, of_names), parts).of_cells


def _settled(start, parts):
    """The Sizes behind some, with the least ones for parts, a dict from cells and pairs for names to formulas."""
    of_cells = {cell: start.of_cells[cell] for cell in start.of_cells if cell not in parts}
    of_names = {name: start.of_names[name] for name in start.of_names if ("name", name) not in parts}
    sizes = Sizes(start.setting, of_cells, of_names)
    users = _users_of(start.setting, parts)
    queue = list(parts)
    while queue:
        part = queue.pop()
        formula, sheet = parts[part]
        size = sizes.size_of(formula, sheet)
        if part[0] == "name":
            is_changed = of_names.get(part[1], ALONE) != size
            of_names[part[1]] = size
        else:
            is_changed = of_cells.get(part, ALONE) != size
            of_cells[part] = size
        if is_changed:
            queue.extend(users.get(part, ()))
    return sizes


def _users_of(setting, parts):
    """A dict from cells and names to the list of the parts in which they are written."""
    users = {}
    for part, (formula, sheet) in parts.items():
        for node in nodes_of(formula):
            if node[0] == "name":
                users.setdefault(node, []).append(part)
            elif node[0] == "spill":
                rect = rect_of_node(node, sheet, setting)
                if rect is not None:
                    users.setdefault(rect[:3], []).append(part)
    return users


def _greatest(sizes):
    """The greatest height and the greatest width."""
    return max([1] + [height for height, _ in sizes]), max([1] + [width for _, width in sizes])


def _size_of_call(name, parts, sizes):
    """The size of a call of a function with as many arguments as it takes."""
    letters = letters_for(name, len(parts))
    counted = [size for letter, size in zip(letters, sizes) if sort_of_letter(letter) != "wide"]
    return _greatest(counted + _told_sizes(name, parts, sizes))


def _told_sizes(name, parts, sizes):
    """The list of the sizes that are told of a function by itself."""
    if name in ("SORT", "UNIQUE", "FILTER", "INDEX"):
        return [sizes[0]]
    if name == "XLOOKUP":
        return [sizes[2]]
    if name == "TRANSPOSE":
        return [(sizes[0][1], sizes[0][0])]
    if name == "MMULT":
        return [(sizes[0][0], sizes[1][1])]
    if name == "ROW" and parts:
        return [(sizes[0][0], 1)]
    if name == "COLUMN" and parts:
        return [(1, sizes[0][1])]
    if name == "SEQUENCE":
        return [(_written_whole(parts[0]), 1 if len(parts) < 2 else _written_whole(parts[1]))]
    return []


def _written_whole(part):
    """The whole part of a number as it is written, at least 1; the greatest size for anything else."""
    if part[0] != "number":
        return MOST_REACH
    return min(MOST_REACH, max(1, part[1].floor()))
