"""What books tell of seeing, reaching, hanging and changing, told once more by the words of the document alone."""

from allinputs.areas import Area
from allinputs.signatures import is_function, is_taken, letters_for
from allinputs.trees import nodes_of

# Of the grid so many rows and columns are looked at; the cells of the books lie well within.
ROWS, COLUMNS = 40, 30


class Naive:
    """What holds for a book at one moment."""

    def __init__(self, book):
        held = book.held
        self.tabs = tuple(held.tabs)
        self.low = [tab.lower() for tab in held.tabs]
        self.texts, self.name_texts, self.named = dict(held.texts), dict(held.name_texts), dict(held.named)
        self.formulas = {cell: content for cell, content in held.contents.items() if isinstance(content, tuple)}
        self.held = set(held.contents)
        self.uses = {cell: self.used_by(formula) for cell, formula in self.formulas.items()}
        self.seen = {cell: self.seen_by(cell) for cell in self.formulas}
        self.sizes, self.name_sizes = self.all_sizes()
        self.reaches = {cell: self.reach_from(cell) for cell in self.formulas}
        self.hangs = {cell: {other for other in self.formulas if self.does_hang(cell, other)} for cell in self.formulas}

    def used_by(self, formula):
        found, queue = set(), [formula]
        while queue:
            for node in nodes_of(queue.pop()):
                if node[0] == "name" and node[1] not in found:
                    found.add(node[1])
                    queue += [self.named[node[1]]] if node[1] in self.named else []
        return found

    def tab(self, sheet, otherwise):
        if sheet is None:
            return otherwise
        return self.low.index(sheet.lower()) if sheet.lower() in self.low else None

    def seen_by(self, cell):
        found = set()
        for formula in [self.formulas[cell]] + [self.named[name] for name in self.uses[cell] if name in self.named]:
            for node in nodes_of(formula):
                if node[0] != "name":
                    area = node[1] if node[0] == "area" else Area(node[1], node[1])
                    tab = self.tab(area.sheet, cell[0])
                    if tab is not None:
                        found |= {(tab, row, column)
                                  for row in range(area.first.row, min(ROWS, area.last.row) + 1)
                                  for column in range(area.first.column, min(COLUMNS, area.last.column) + 1)}
        return found

    def size(self, formula, sheet, sizes, names):
        word = formula[0]
        if word == "area":
            return min(10000, formula[1].height), min(10000, formula[1].width)
        if word == "array":
            return len(formula[1]), len(formula[1][0])
        if word == "name":
            return names.get(formula[1], (1, 1))
        if word == "spill":
            return sizes.get((self.tab(formula[1].sheet, sheet), formula[1].row, formula[1].column), (1, 1))
        if word == "call":
            name, parts = formula[1], formula[2]
            if not is_function(name) or not is_taken(name, len(parts)):
                return 1, 1
            told = [self.size(part, sheet, sizes, names) for part in parts]
            counted = [(1, 1)] + [size for letter, size in zip(letters_for(name, len(parts)), told) if letter not in "gh"]
            if name in ("SORT", "UNIQUE", "FILTER", "INDEX"):
                counted.append(told[0])
            if name == "TRANSPOSE":
                counted.append((told[0][1], told[0][0]))
            if name == "MMULT":
                counted.append((told[0][0], told[1][1]))
            if name == "ROW" and told:
                counted.append((told[0][0], 1))
            if name == "COLUMN" and told:
                counted.append((1, told[0][1]))
            if name == "SEQUENCE":
                wholes = [min(10000, max(1, part[1].floor())) if part[0] == "number" else 10000 for part in parts]
                counted.append((wholes[0], wholes[1] if len(parts) > 1 else 1))
            return max(size[0] for size in counted), max(size[1] for size in counted)
        told = [self.size(part, sheet, sizes, names) for part in formula[1:] if isinstance(part, tuple)]
        return max([1] + [size[0] for size in told]), max([1] + [size[1] for size in told])

    def all_sizes(self):
        sizes, names = {}, {}
        while True:
            fresh = {cell: self.size(formula, cell[0], sizes, names) for cell, formula in self.formulas.items()}
            others = {name: self.size(formula, 0, sizes, names) for name, formula in self.named.items()}
            if fresh == sizes and others == names:
                return sizes, names
            sizes, names = fresh, others

    def reach_from(self, cell):
        height, width = self.sizes[cell]
        return {(cell[0], row, column) for row in range(cell[1], min(ROWS, cell[1] + height - 1) + 1)
                for column in range(cell[2], min(COLUMNS, cell[2] + width - 1) + 1)}

    def does_hang(self, cell, other):
        if other in self.seen[cell] or (self.seen[cell] & self.reaches[other]) - self.held:
            return True
        return other[0] == cell[0] and other < cell and bool((self.reaches[cell] & self.reaches[other]) - self.held)

    def all_below(self, cell):
        found, queue = set(), list(self.hangs[cell])
        while queue:
            other = queue.pop()
            if other not in found:
                found.add(other)
                queue += self.hangs[other]
        return found

    def in_turn(self, cells):
        """Cells of formulas in the order of working."""
        told = sorted(cell for cell in cells if cell in self.all_below(cell))
        left = sorted(set(cells) - set(told))
        while left:
            cell = next(cell for cell in left if not self.hangs[cell] & set(left))
            told.append(cell)
            left.remove(cell)
        return told


def unlike(one, other):
    return {key for key in set(one) | set(other) if one.get(key) != other.get(key)}


def worked_between(before, behind):
    """The cells of the formulas that are worked anew by a change from one moment to another, in their order."""
    if (before.tabs, before.texts, before.name_texts) == (behind.tabs, behind.texts, behind.name_texts):
        return []
    if before.tabs != behind.tabs:
        return behind.in_turn(behind.formulas)
    cells, names = unlike(before.texts, behind.texts), unlike(before.name_texts, behind.name_texts)
    touched = set(cells)
    for moment in (before, behind):
        touched |= {cell for cell in moment.formulas if moment.seen[cell] & cells or moment.reaches[cell] & cells
                    or moment.uses[cell] & names}
    while True:
        more = {cell for moment in (before, behind) for cell in moment.formulas if moment.hangs[cell] & touched} - touched
        if not more:
            return behind.in_turn([cell for cell in touched if cell in behind.formulas])
        touched |= more
