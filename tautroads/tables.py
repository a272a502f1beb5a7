"""Tables of least lengths, a road more in a table, and the windows of two places."""

from tautroads.errors import NoRoad, NoTaut
from tautroads.heights import check_taut
from tautroads.least import lower_from, places_reached
from tautroads.nets import check_net, check_question, is_road


def together(lengths):
    """Add lengths up; where one of them is None, for no way, there is no way in all: None."""
    if None in lengths:
        return None
    return sum(lengths)


def shorter(one, other):
    """Tell the lesser of two lengths, either of which may be None, for no way."""
    if one is None:
        return other
    if other is None:
        return one
    return min(one, other)


def lengths_from(net, one):
    """Tell the least length of a way from one to each place, or None, in a net that is known to be taut."""
    values, entries = lower_from(net, one)
    reached = places_reached(net, one)
    return [values[place] if place in reached else None for place in range(net[0])]


def table(net):
    """Tell the least length of a way from each place to each, None for no way; refuse NoNet, then NoTaut."""
    check_net(net)
    check_taut(net)
    return [lengths_from(net, one) for one in range(net[0])]


def table_with(table, road):
    """Tell the table of the net with this road more; refuse NoRoad, then NoTaut."""
    if not is_road(len(table), road):
        raise NoRoad("the tuple is no road of a net of so many places")
    start, end, length = road
    back = together([length, table[end][start]])
    if back is not None and back < 0:
        raise NoTaut("the road would close a ring of length below 0")
    # In a taut net a least way needs no road twice, so it goes by the new one once or not at all.
    return [
        [shorter(row[place], together([row[start], length, table[end][place]])) for place in range(len(table))]
        for row in table
    ]


def window(net, one, other):
    """Tell how far, for all heights, the other's less the one's is at least and at most, None for no bound.

    Refuse NoNet, NoPlace, then NoTaut.
    """
    check_question(net, one, other)
    check_taut(net)
    most = lengths_from(net, one)[other]
    back = lengths_from(net, other)[one]
    return (None if back is None else -back, most)
