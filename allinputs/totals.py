"""Functions: sums and counts."""

from allinputs.arranging import arranged
from allinputs.errors import TooHigh
from allinputs.grids import Grid, grid_of
from allinputs.operators import quotient
from allinputs.places import first_fault, first_fault_within, given, whole_within
from allinputs.ratios import Ratio
from allinputs.turning import to_number, to_truth
from allinputs.values import Fault, compare_numbers, is_number
from allinputs.wholes import MOST_DIGITS


# Numbers on the way to a result may be longer than it, but none that would take too long to work with.
_MOST_BITS = 400000


def sum_of_numbers(numbers):
    """The sum of a list of numbers; ratios with one bottom are added as integers."""
    tops = {}
    for number in numbers:
        if isinstance(number, Ratio):
            tops[number.bottom] = tops.get(number.bottom, 0) + number.top
    total = sum_by_bottoms(tops)
    for number in numbers:
        if not isinstance(number, Ratio):
            total = total + number
    return total


def sum_by_bottoms(tops):
    """The sum of fractions, told as a dict from their bottoms to the sums of the tops."""
    total = Ratio(0)
    for bottom in tops:
        total = _bounded(total + Ratio(tops[bottom], bottom))
    return total


def product_of_numbers(numbers):
    """The product of a list of numbers, 0 if there is none."""
    if not numbers:
        return Ratio(0)
    total = Ratio(1)
    for number in numbers:
        # With a factor 0 the rest is not needed; nothing is 0 but the told ratio.
        if isinstance(total, Ratio) and total.top == 0:
            return total
        total = _bounded(total * number)
    return total


def _bounded(number):
    """A number that is not much longer than a result may be."""
    if isinstance(number, Ratio) and max(number.top.bit_length(), number.bottom.bit_length()) > _MOST_BITS:
        raise TooHigh(MOST_DIGITS)
    return number


def least_of(numbers):
    """The least of a list of numbers, 0 if there is none."""
    return _outermost(numbers, -1)


def greatest_of(numbers):
    """The greatest of a list of numbers, 0 if there is none."""
    return _outermost(numbers, 1)


def average_of(numbers):
    """The average of a list of numbers, DIV if there is none."""
    return quotient(sum_of_numbers(numbers), Ratio(len(numbers)))


def numbers_within(grid):
    """The list of the numbers within a grid."""
    return [value for value in grid.cells() if is_number(value)]


def _outermost(numbers, side):
    """The least number, or the greatest one if side is 1."""
    if not numbers:
        return Ratio(0)
    best = numbers[0]
    for number in numbers[1:]:
        if compare_numbers(number, best) == side:
            best = number
    return best


def _numbers_of(things):
    """The list of the numbers of wide arguments, or the first Fault that comes out by turning."""
    found = []
    for thing in things:
        if isinstance(thing, Grid):
            found.extend(numbers_within(thing))
        else:
            found.append(to_number(thing))
    fault = first_fault(found)
    return found if fault is None else fault


def _of_numbers(things, action):
    """What a function tells for the numbers of wide arguments, the first Fault ahead of it."""
    fault = first_fault_within(things)
    if fault is not None:
        return fault
    numbers = _numbers_of(things)
    return numbers if isinstance(numbers, Fault) else action(numbers)


def _sum(things):
    """SUM."""
    return _of_numbers(things, sum_of_numbers)


def _product(things):
    """PRODUCT."""
    return _of_numbers(things, product_of_numbers)


def _least(things):
    """MIN."""
    return _of_numbers(things, least_of)


def _greatest(things):
    """MAX."""
    return _of_numbers(things, greatest_of)


def _average(things):
    """AVERAGE."""
    return _of_numbers(things, average_of)


def _median(things):
    """MEDIAN."""
    return _of_numbers(things, median_of)


def median_of(numbers):
    """The middle one of a list of numbers by size, or half the sum of the two middle ones; NUM if there is none."""
    if not numbers:
        return Fault("NUM")
    row = arranged(numbers, compare_numbers)
    at = len(row) // 2
    if len(row) > at * 2:
        return row[at]
    return (row[at - 1] + row[at]) * Ratio(1, 2)


def _large(things):
    """LARGE."""
    return _at_rank(things, -1)


def _small(things):
    """SMALL."""
    return _at_rank(things, 1)


def _at_rank(things, side):
    """The number at a place of the numbers by size, from the least, or from the greatest one if side is -1."""
    fault = first_fault_within(things)
    if fault is not None:
        return fault
    numbers, place = _numbers_of(things[:1]), to_number(things[1])
    fault = first_fault((numbers, place))
    if fault is not None:
        return fault
    at = whole_within(place, 1, len(numbers) + 1)
    if at < 1 or at > len(numbers):
        return Fault("NUM")
    row = arranged(numbers, compare_numbers)
    return row[at - 1] if side > 0 else row[len(row) - at]


def _rank(things):
    """RANK."""
    fault = first_fault_within(things)
    if fault is not None:
        return fault
    number, numbers = to_number(things[0]), _numbers_of(things[1:2])
    is_upwards = to_truth(given(things, 2, False))
    fault = first_fault((number, numbers, is_upwards))
    if fault is not None:
        return fault
    orders = [compare_numbers(other, number) for other in numbers]
    if 0 not in orders:
        return Fault("NA")
    return Ratio(1 + orders.count(-1 if is_upwards else 1))


def _sum_of_products(things):
    """SUMPRODUCT."""
    fault = first_fault_within(things)
    if fault is not None:
        return fault
    grids = [grid_of(thing) for thing in things]
    for grid in grids:
        if grid.height != grids[0].height or grid.width != grids[0].width:
            return Fault("VALUE")
    rows = [grid.cells() for grid in grids]
    products = []
    for at in range(len(rows[0])):
        factors = [row[at] for row in rows]
        if all([is_number(value) for value in factors]):
            products.append(product_of_numbers(factors))
    return sum_of_numbers(products)


def _count(things):
    """COUNT."""
    many = 0
    for thing in things:
        if isinstance(thing, Grid):
            many = many + len(numbers_within(thing))
        elif not isinstance(to_number(thing), Fault):
            many = many + 1
    return Ratio(many)


def _count_all(things):
    """COUNTA."""
    values = [value for thing in things for value in grid_of(thing).cells()]
    return Ratio(len([value for value in values if value is not None]))


def _count_blank(things):
    """COUNTBLANK."""
    values = grid_of(things[0]).cells()
    return Ratio(len([value for value in values if value is None or (isinstance(value, str) and value == "")]))


TOTALS = {
    "SUM": _sum, "PRODUCT": _product, "MIN": _least, "MAX": _greatest, "AVERAGE": _average, "MEDIAN": _median,
    "LARGE": _large, "SMALL": _small, "RANK": _rank, "SUMPRODUCT": _sum_of_products, "COUNT": _count,
    "COUNTA": _count_all, "COUNTBLANK": _count_blank,
}
