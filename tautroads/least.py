"""Least ways, with heights or a lot of places that show them, and their looker."""

from tautroads.heights import are_heights, check_taut, lower, way_back
from tautroads.nets import check_question, is_place, leads, way_length

# A least way has at most 19 roads, so its length is within 19 * 10 ** 9 either way: a place that
# starts this high never lowers one that can be come to, and all values have at most 11 figures.
FAR = 4 * 10 ** 10


def places_reached(net, one):
    """Tell the places at which a way from one ends, rising."""
    reached = [one]
    at = 0
    while at < len(reached):
        for start, end, length in net[1]:
            if start == reached[at] and end not in reached:
                reached.append(end)
        at += 1
    return sorted(reached)


def lower_from(net, one):
    """Tell heights that are the least lengths from one wherever a way leads, and the entries behind them.

    The net is known to be taut.
    """
    starts = [FAR] * net[0]
    starts[one] = 0
    values, entries, last = lower(net, starts)
    return values, entries


def least_in(net, one, other):
    """Tell what least tells, of a net that is known to be taut; from a place to itself the empty way."""
    reached = places_reached(net, one)
    if other not in reached:
        return ("none", reached)
    values, entries = lower_from(net, one)
    if one == other:
        return ("way", [], values)
    return ("way", way_back(net, entries, one, other), values)


def least(net, one, other):
    """Tell ("way", WAY, HEIGHTS), or ("none", LOT) where no way leads; refuse NoNet, NoPlace, then NoTaut."""
    check_question(net, one, other)
    check_taut(net)
    return least_in(net, one, other)


def shows_way(net, one, other, way, told):
    if not leads(net, one, other, way) or not are_heights(net, told):
        return False
    return told[other] - told[one] == way_length(net, way)


def is_lot(count, lot):
    """Tell whether the list is one of places, rising."""
    rising = all([low < high for low, high in zip(lot, lot[1:])])
    return rising and all([is_place(count, number) for number in lot])


def shows_lot(net, one, other, lot):
    count, roads = net
    if not is_lot(count, lot) or one not in lot or other in lot:
        return False
    return not any([start in lot and end not in lot for start, end, length in roads])


def shows_least(net, one, other, told):
    """Tell whether the tuple shows what least tells; refuse NoNet, then NoPlace, whatever stands in it."""
    check_question(net, one, other)
    if told[0] == "way":
        return shows_way(net, one, other, told[1], told[2])
    return shows_lot(net, one, other, told[1])
