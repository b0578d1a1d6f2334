"""Lists put into an order that is told by a function."""


def arranged(items, order):
    """A list of the items in the order in which order(one, other) is never above 0 for neighbours.

    order(one, other) is below 0 if one comes ahead, above 0 if it comes behind; equal items stay as they are.
    """
    runs = [[item] for item in items]
    while len(runs) > 1:
        joined = [_joined(runs[at], runs[at + 1], order) for at in range(0, len(runs) - 1, 2)]
        runs = joined + runs[2 * len(joined):]
    return runs[0] if runs else []


def _joined(one, other, order):
    """One list of two that are in order."""
    joined = []
    first = second = 0
    while first < len(one) and second < len(other):
        if order(one[first], other[second]) > 0:
            joined.append(other[second])
            second = second + 1
        else:
            joined.append(one[first])
            first = first + 1
    return joined + one[first:] + other[second:]
