"""Parts that are rounded so that they still add up."""

from allinputs.arranging import arranged
from allinputs.checks import check_list, check_whole
from allinputs.errors import BadValue
from allinputs.ratios import Ratio, as_ratio, is_ratio
from allinputs.wholes import whole_power


def rounded_parts(ratios, places):
    """Ratios rounded to so many decimals, downwards or upwards, that add up to their rounded sum."""
    check_list(ratios)
    for ratio in ratios:
        if not is_ratio(ratio):
            raise BadValue(ratio)
    check_whole(places)
    scale = whole_power(10, places)
    wanted = [as_ratio(ratio) * scale for ratio in ratios]
    floors = [ratio.floor() for ratio in wanted]
    raised = {}
    for number in _farthest(wanted, floors)[:_many_raised(wanted, floors)]:
        raised[number] = True
    return [Ratio(floor + 1 if at in raised else floor, scale) for at, floor in enumerate(floors)]


def _many_raised(ratios, floors):
    """How many units the sum of ratios, rounded, is above the sum of their floors."""
    total = Ratio(1, 2)
    for ratio in ratios:
        total = total + ratio
    return total.floor() - sum(floors)


def _farthest(ratios, floors):
    """The numbers of the ratios, from the one farthest above its floor on."""
    above = [(ratio - floor, at) for at, (ratio, floor) in enumerate(zip(ratios, floors))]
    return [at for _, at in arranged(above, _order_downwards)]


def _order_downwards(one, other):
    """The order of two pairs, the one that begins with the greater ratio ahead."""
    return other[0].compare(one[0])
