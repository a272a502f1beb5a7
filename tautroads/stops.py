"""Least ways of just so many roads, and least ways through told stops."""

from tautroads.errors import NoCount
from tautroads.heights import check_taut
from tautroads.nets import check_net, check_place, check_question
from tautroads.tables import table, together

MOST_STEPS = 60
MOST_STOPS = 7


def one_road_more(roads, lengths):
    """Tell, for each place, the least length of a way with one road more, and the last road of it."""
    further = [None] * len(lengths)
    entries = [None] * len(lengths)
    for number, (start, end, length) in enumerate(roads):
        reach = together([lengths[start], length])
        if reach is not None and (further[end] is None or reach < further[end]):
            further[end] = reach
            entries[end] = number
    return further, entries


def way_of_steps(roads, steps, other):
    """Follow each step's entries back from other, the last step first."""
    way = []
    at = other
    for entries in reversed(steps):
        way.append(entries[at])
        at = roads[entries[at]][0]
    return way[::-1]


def counted(net, one, other, k):
    """Tell (LENGTH, WAY) of a least way of just k roads, or None; refuse NoNet, NoPlace, NoCount, then NoTaut."""
    check_question(net, one, other)
    if not 0 <= k <= MOST_STEPS:
        raise NoCount(f"a way of 0 to {MOST_STEPS} roads can be asked for")
    check_taut(net)
    count, roads = net
    lengths = [0 if place == one else None for place in range(count)]
    steps = []
    for turn in range(k):
        lengths, entries = one_road_more(roads, lengths)
        steps.append(entries)
    if lengths[other] is None:
        return None
    return (lengths[other], way_of_steps(roads, steps, other))


def table_for(net, stops):
    """Tell the net's table; refuse NoNet, NoPlace of any stop, NoCount, then NoTaut."""
    check_net(net)
    for stop in stops:
        check_place(net, stop)
    if not 1 <= len(stops) <= MOST_STOPS:
        raise NoCount(f"there may be 1 to {MOST_STOPS} stops")
    return table(net)


def length_through(rows, stops):
    """Add up the least lengths from each stop to the next, by the table's rows; None where there is no way."""
    return together([rows[one][other] for one, other in zip(stops, stops[1:])])


def through(net, stops):
    """Tell the least length of a way by the stops in their order, or None.

    Refuse NoNet, NoPlace of any stop, NoCount, then NoTaut.
    """
    return length_through(table_for(net, stops), stops)


def orders(stops):
    """Tell every order of the stops; each stop stands first with every order of the others behind it."""
    if not stops:
        return [[]]
    told = []
    for at, stop in enumerate(stops):
        for rest in orders(stops[:at] + stops[at + 1:]):
            told.append([stop] + rest)
    return told


def orders_between(stops):
    """Tell every order of the stops in which the first and the last one stay."""
    # One stop is first and last at once, and must not stand there twice.
    return [stops[:1] + middle + stops[1:][-1:] for middle in orders(stops[1:-1])]


def best_order(net, stops):
    """Tell (LENGTH, ORDER) of the best order in which the first and the last stop stay, or None.

    Refuse NoNet, NoPlace of any stop, NoCount, then NoTaut.
    """
    rows = table_for(net, stops)
    found = [(length_through(rows, order), order) for order in orders_between(stops)]
    # Of tuples of the same length the least is the one whose order is the first.
    return min([(length, order) for length, order in found if length is not None], default=None)
