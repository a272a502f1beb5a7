"""Least ways by a road and without it, the roads that they may or must take, and their detours."""

from tautroads.heights import check_taut
from tautroads.least import least_in
from tautroads.nets import check_question, check_road, way_length
from tautroads.tables import lengths_from, table, together


def check_road_question(net, one, other, number):
    """Refuse NoNet, NoPlace, NoRoad, then NoTaut."""
    check_question(net, one, other)
    check_road(net, number)
    check_taut(net)


def shut(net, number):
    """Tell the net in which the road is shut; each road behind it has a number one less there."""
    count, roads = net
    return (count, roads[:number] + roads[number + 1:])


def by(net, one, other, number):
    """Tell (LENGTH, WAY) of a least way that goes by the road, or None; refuse NoNet, NoPlace, NoRoad, NoTaut."""
    check_road_question(net, one, other, number)
    start, end, length = net[1][number]
    ahead = least_in(net, one, start)
    behind = least_in(net, end, other)
    if ahead[0] == "none" or behind[0] == "none":
        return None
    way = ahead[1] + [number] + behind[1]
    return (way_length(net, way), way)


def without(net, one, other, number):
    """Tell what least tells of the net in which the road is shut, by the roads' numbers in this net.

    Refuse NoNet, NoPlace, NoRoad, then NoTaut, where this net isn't taut.
    """
    check_road_question(net, one, other, number)
    told = least_in(shut(net, number), one, other)
    if told[0] == "none":
        return told
    way = [at if at < number else at + 1 for at in told[1]]
    return ("way", way, told[2])


def tight(net, one, other):
    """Tell the roads by which some least way goes, rising; refuse NoNet, NoPlace, then NoTaut."""
    check_question(net, one, other)
    rows = table(net)
    straight = rows[one][other]
    if straight is None:
        return []
    told = []
    for number, (start, end, length) in enumerate(net[1]):
        if together([rows[one][start], length, rows[end][other]]) == straight:
            told.append(number)
    return told


def detours(net, one, other):
    """Tell (NUMBER, MORE) for each needed road, rising; refuse NoNet, NoPlace, then NoTaut."""
    numbers = tight(net, one, other)
    straight = lengths_from(net, one)[other]
    told = []
    # Shutting a road that no least way goes by leaves them all, so only tight roads can be needed.
    for number in numbers:
        around = lengths_from(shut(net, number), one)[other]
        if around is None:
            told.append((number, None))
        elif around > straight:
            told.append((number, around - straight))
    return told


def needed(net, one, other):
    """Tell the roads by which every least way goes, rising; refuse NoNet, NoPlace, then NoTaut."""
    return [number for number, more in detours(net, one, other)]
