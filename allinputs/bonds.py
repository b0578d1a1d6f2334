"""Bonds: which formulas hang on which ones, and the order in which they are worked."""

from allinputs.chains import in_turn, parted


class Bonds:
    """What was asked of a Mesh so far. Meshes that differ in contents alone, none of them a formula, share it."""

    def __init__(self):
        # The lists of the formulas that hang on those of cells, by these cells, and the Sequence of all formulas.
        self.hanging = {}
        self.whole = None

    def keep_hanging(self, cell, others):
        """Keeps the formulas that hang on that of a cell."""
        self.hanging[cell] = others

    def keep_whole(self, whole):
        """Keeps the Sequence of all formulas."""
        self.whole = whole


class Sequence:
    """The rings of all formulas, and how those in none are worked; edges has the lists of those that hang on each."""

    def __init__(self, edges):
        self.ringed, self.users = parted(edges)
        self.ranks = {cell: rank for rank, cell in enumerate(in_turn(self.users))}
        # The formulas on which others hang by one step, those in rings left out.
        found = turned_about(self.users)
        self.sources = {cell: found.get(cell, []) for cell in self.users}


def turned_about(table):
    """A dict from all that the lists of a dict have to the lists of the keys of these, each once."""
    told = {}
    for key in table:
        for thing in list({other: True for other in table[key]}):
            told.setdefault(thing, []).append(key)
    return told
