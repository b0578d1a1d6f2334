"""The order in which things that depend on each other are worked; which ones depend on themselves."""


def rings_among(edges):
    """The list of the rings, lists in order, of things that lead to each other, or of one that leads to itself.

    edges is a dict from each thing to the list of those it leads to; others than its keys are left out. The
    things are tuples, and the rings come in the order of their first ones.
    """
    rings = []
    for group in Search(edges).all_groups():
        if len(group) > 1 or group[0] in edges[group[0]]:
            rings.append(sorted(group))
    return sorted(rings)


def parted(edges):
    """The dict of the formulas in rings, and all others with the lists of those that hang on them."""
    ringed = {cell: True for ring in rings_among(edges) for cell in ring}
    rest = {cell: [other for other in edges[cell] if other not in ringed] for cell in edges if cell not in ringed}
    return ringed, rest


def in_turn(edges):
    """The list of all things in the order in which they are worked.

    It is always the first one, in order, to which none leads that is still to come. edges is a dict as above in
    which no thing leads back to itself.
    """
    ahead = {thing: 0 for thing in edges}
    for thing in edges:
        for other in edges[thing]:
            if other in ahead:
                ahead[other] = ahead[other] + 1
    # Those that may come next stand backwards, so that the first one is taken from the end.
    ready = sorted([thing for thing in ahead if ahead[thing] == 0])[::-1]
    told = []
    while ready:
        thing = ready.pop()
        told.append(thing)
        for other in edges[thing]:
            if other in ahead:
                ahead[other] = ahead[other] - 1
                if ahead[other] == 0:
                    ready.insert(_place_among(ready, other), other)
    return told


def _place_among(ready, thing):
    """The place of a thing in a list of others that come backwards."""
    low, high = 0, len(ready)
    while low < high:
        middle = (low + high) // 2
        if ready[middle] > thing:
            low = middle + 1
        else:
            high = middle
    return low


class Search:
    """A search for the greatest groups of things that lead to each other: Tarjan's way, without calls within calls.

    The least number of a thing is that of the first one, of those that still wait for their group, it leads back to.
    """

    def __init__(self, edges):
        self.edges = edges
        self.numbers = {}
        self.least = {}
        self.waiting = []
        self.is_waiting = {}
        self.groups = []

    def all_groups(self):
        """The list of the groups, each thing in one of them."""
        for start in self.edges:
            if start not in self.numbers:
                self._search_from(start)
        return self.groups

    def _search_from(self, start):
        """Finds the groups of a thing and of all to which it leads."""
        path = [(start, 0)]
        while path:
            thing, begin = path.pop()
            at = self._behind_known(thing, begin)
            if at < len(self.edges[thing]):
                path.append((thing, at))
                path.append((self.edges[thing][at], 0))
            elif self.least[thing] == self.numbers[thing]:
                self._end_group(thing)

    def _behind_known(self, thing, start):
        """The place, from one on, of the first thing that another one leads to and that was not met yet."""
        if thing not in self.numbers:
            self.numbers[thing] = self.least[thing] = len(self.numbers)
            self.waiting.append(thing)
            self.is_waiting[thing] = True
        others = self.edges[thing]
        at = start
        while at < len(others) and (others[at] in self.numbers or others[at] not in self.edges):
            if others[at] in self.is_waiting:
                self.least[thing] = min(self.least[thing], self.least[others[at]])
            at = at + 1
        return at

    def _end_group(self, first):
        """The group of a thing is complete: those that wait, from this one on."""
        group = []
        while not group or group[-1] != first:
            group.append(self.waiting.pop())
            del self.is_waiting[group[-1]]
        self.groups.append(group)
