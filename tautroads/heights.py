"""Heights of a net, or a ring of length below 0, and the lookers of both."""

from tautroads.errors import NoTaut
from tautroads.nets import check_net, leads, way_length


def lower_once(roads, values, entries):
    """Go along every road once, lower the places that stand too high, and tell the last of them or None."""
    last = None
    for number, (start, end, length) in enumerate(roads):
        if values[start] + length < values[end]:
            values[end] = values[start] + length
            entries[end] = number
            last = end
    return last


def lower(net, starts):
    """Lower the values that the places start with until no road is shorter than it rises.

    Tell the values, the road by which each place was lowered last (None where it wasn't), and None;
    or, in the place of this None, a place that was still lowered in the last round, where there is a
    ring of length below 0.
    """
    count, roads = net
    values = list(starts)
    entries = [None] * count
    last = None
    # Without such a ring a least way comes to no place twice, so it has fewer roads than there are
    # places, and the last of as many rounds as places lowers nothing.
    for turn in range(count):
        last = lower_once(roads, values, entries)
        if last is None:
            break
    return values, entries, last


def way_back(net, entries, one, other):
    """Follow the entries back from other until they come to one, by one road at least."""
    roads = net[1]
    way = [entries[other]]
    while roads[way[-1]][0] != one:
        way.append(entries[roads[way[-1]][0]])
    return way[::-1]


def ring_behind(net, entries, last):
    """Tell the ring that the entries close behind a place that was lowered in the last round."""
    count, roads = net
    place = last
    # A place lowered in one round was lowered from one that was itself lowered in that round or the
    # one ahead; so so many steps back can be gone, and they end on the ring, not only on a way to it.
    for step in range(count):
        place = roads[entries[place]][0]
    return way_back(net, entries, place, place)


def heights(net):
    """Tell ("heights", HEIGHTS), or ("ring", WAY) where a ring is below 0; refuse NoNet."""
    check_net(net)
    values, entries, last = lower(net, [0] * net[0])
    if last is None:
        return ("heights", values)
    return ("ring", ring_behind(net, entries, last))


def check_taut(net):
    """Refuse a net with a ring of length below 0, one that was looked at already."""
    values, entries, last = lower(net, [0] * net[0])
    if last is not None:
        raise NoTaut("the net has a ring of length below 0")


def are_heights(net, told):
    """Tell whether the list is one of heights, of a net that was looked at already."""
    count, roads = net
    if len(told) != count:
        return False
    return all([told[end] <= told[start] + length for start, end, length in roads])


def is_ring(net, way):
    """Tell whether the list is a ring, in a net that was looked at already."""
    roads = net[1]
    if not way or not 0 <= way[0] < len(roads):
        return False
    start = roads[way[0]][0]
    return leads(net, start, start, way)


def shows_heights(net, told):
    """Tell whether the list is one of heights; refuse NoNet alone, whatever stands in the list."""
    check_net(net)
    return are_heights(net, told)


def shows_ring(net, way):
    """Tell whether the list is a ring of length below 0; refuse NoNet alone, whatever stands in the list."""
    check_net(net)
    return is_ring(net, way) and way_length(net, way) < 0
