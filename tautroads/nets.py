"""Nets, tuples (COUNT, ROADS), and the ways in them, lists of roads' numbers."""

from tautroads.errors import NoNet, NoPlace, NoRoad, NoWay

MOST_PLACES = 20
MOST_ROADS = 60
MOST_LENGTH = 10 ** 9


def is_place(count, number):
    return 0 <= number < count


def is_road(count, road):
    """Tell whether the tuple may stand as a road of a net of so many places."""
    start, end, length = road
    return is_place(count, start) and is_place(count, end) and -MOST_LENGTH <= length <= MOST_LENGTH


def check_net(net):
    count, roads = net
    if not 0 <= count <= MOST_PLACES:
        raise NoNet(f"a net has 0 to {MOST_PLACES} places")
    if len(roads) > MOST_ROADS:
        raise NoNet(f"a net has at most {MOST_ROADS} roads")
    for number, road in enumerate(roads):
        if not is_road(count, road):
            raise NoNet(f"road {number} leads from or to no place, or its length is too far from 0")


def check_place(net, number):
    if not is_place(net[0], number):
        raise NoPlace("the net has no place of this number")


def check_road(net, number):
    if not 0 <= number < len(net[1]):
        raise NoRoad("the net has no road of this number")


def check_question(net, one, other):
    """Refuse a net that is none, then a place that is none: the order that all questions keep."""
    check_net(net)
    check_place(net, one)
    check_place(net, other)


def leads(net, one, other, way):
    """Tell whether the list is a way from one to other, in a net that was looked at already."""
    roads = net[1]
    at = one
    for number in way:
        # Python would take a number below 0 for one counted from the list's end.
        if not 0 <= number < len(roads) or roads[number][0] != at:
            return False
        at = roads[number][1]
    return at == other


def way_length(net, way):
    """Add up the lengths of a way's roads, in a net that was looked at already."""
    roads = net[1]
    return sum([roads[number][2] for number in way])


def is_way(net, one, other, way):
    """Tell whether the list is a way from one to other; refuse NoNet, then NoPlace."""
    check_question(net, one, other)
    return leads(net, one, other, way)


def length_of(net, one, other, way):
    """Tell the length of a way from one to other; refuse NoNet, NoPlace, then NoWay."""
    check_question(net, one, other)
    if not leads(net, one, other, way):
        raise NoWay("the list is no way from the one place to the other")
    return way_length(net, way)
