"""Nets for the tests, and a plain slow search that the program is compared with."""

import itertools
import random

FAR = 10 ** 9

# Each is just beyond one bound of point 4, or far beyond it.
BAD_NETS = [
    (-1, []),
    (21, []),
    (-(10 ** 29), []),
    (10 ** 29, []),
    (0, [(0, 0, 0)]),
    (1, [(0, 1, 0)]),
    (2, [(0, 1, 1)] * 61),
    (2, [(0, 1, 1)] * 200),
    (2, [(-1, 0, 0)]),
    (2, [(0, -1, 0)]),
    (2, [(2, 0, 0)]),
    (2, [(0, 2, 0)]),
    (20, [(20, 0, 0)]),
    (20, [(0, 20, 0)]),
    (2, [(10 ** 29, 0, 0)]),
    (2, [(0, -(10 ** 29), 0)]),
    (2, [(0, 1, FAR + 1)]),
    (2, [(0, 1, -FAR - 1)]),
    (2, [(0, 1, 10 ** 29)]),
    (2, [(0, 0, -1), (0, 1, FAR + 1)]),
    (2, [(0, 1, 0)] * 59 + [(1, 2, 0)]),
    (2, [(0, 1, 0)] * 59 + [(1, 0, -FAR - 1)]),
]


def roads_on(count, lengths):
    """Every road there can be between so many places, of one of these lengths."""
    return list(itertools.product(range(count), range(count), lengths))


def all_tiny_nets():
    """Every net of up to two places and two roads with lengths -1, 0 and 1, and some of three of each."""
    for count in (0, 1, 2):
        for many in (0, 1, 2):
            for roads in itertools.product(roads_on(count, (-1, 0, 1)), repeat=many):
                yield (count, list(roads))
    triples = itertools.product(roads_on(3, (-1, 1)), repeat=3)
    for roads in itertools.islice(triples, 0, None, 7):
        yield (3, list(roads))


def chance_net(dice):
    count = dice.randint(1, 5)
    roads = []
    for turn in range(dice.randint(0, 8)):
        roads.append((dice.randrange(count), dice.randrange(count), dice.randint(-3, 6)))
    return (count, roads)


def chance_taut_net(dice, count, many, steep, slack):
    """A net that some heights up to steep show to be taut; slack 0 gives rings of length 0."""
    levels = [dice.randint(-steep, steep) for place in range(count)]
    roads = []
    for turn in range(many):
        start, end = dice.randrange(count), dice.randrange(count)
        roads.append((start, end, levels[end] - levels[start] + dice.randint(0, slack)))
    return (count, roads)


def small_nets():
    """Many small nets, taut and not; the same ones in each run."""
    yield from all_tiny_nets()
    dice = random.Random(20)
    for turn in range(400):
        yield chance_net(dice)
    for turn in range(400):
        count = dice.randint(2, 5)
        net = chance_taut_net(dice, count, dice.randint(1, 8), 4, turn % 3)
        yield net
        yield one_shorter(net, dice.randrange(len(net[1])))


def fallen(net, number, much):
    """The net with one road's length so much less."""
    count, roads = net
    start, end, length = roads[number]
    return (count, roads[:number] + [(start, end, length - much)] + roads[number + 1:])


def one_shorter(net, number):
    """The net with one road's length 1 less: a ring of just 0 by it becomes one of 1 below."""
    return fallen(net, number, 1)


def net_without(net, number):
    return (net[0], net[1][:number] + net[1][number + 1:])


def chain(count, length):
    return (count, [(place, place + 1, length) for place in range(count - 1)])


def braid(length):
    """20 places in a row, each step by three roads: 3 ** 19 ways, too many to try one by one."""
    roads = []
    for place in range(19):
        roads.extend([(place, place + 1, length), (place, place + 1, length), (place, place + 1, length - 1)])
    return (20, roads + [(5, 5, 0), (19, 19, 1), (0, 0, 7)])


def whole_ring(last):
    """A ring by all 20 places with lengths as far from 0 as they may be, which comes to last."""
    roads = [(place, place + 1, FAR if place % 2 else -FAR) for place in range(18)]
    return (20, [(19, 0, last)] + roads[::-1] + [(18, 19, 0)])


NOT_TAUT = [
    (1, [(0, 0, -1)]),
    (2, [(0, 1, 1), (1, 0, -2)]),
    # The ring can't be come to, or nothing leads from it, or it is alone.
    (3, [(0, 1, 1), (2, 2, -1), (2, 0, 5)]),
    (3, [(0, 1, 1), (1, 2, 3), (2, 2, -1)]),
    (4, [(0, 1, 1), (2, 3, FAR), (3, 2, -FAR), (3, 2, -FAR), (2, 3, FAR - 1)]),
    whole_ring(-1),
    (20, [(18, 19, FAR), (19, 18, -FAR), (19, 19, -1)]),
]


def big_taut_nets():
    dice = random.Random(60)
    yield (20, [])
    yield chain(20, FAR)
    yield chain(20, -FAR)
    yield braid(FAR)
    yield braid(-FAR + 1)
    yield whole_ring(0)
    for slack in (0, 1, 1000, 10 ** 8):
        yield chance_taut_net(dice, 20, 60, 4 * 10 ** 8, slack)
        yield chance_taut_net(dice, 20, 30, 4 * 10 ** 8, slack)


def middling_taut_nets():
    """Nets of each number of places, with more roads than a slow search can go."""
    dice = random.Random(9)
    for count in range(1, 21):
        for many in (count // 2, count, 2 * count, 3 * count):
            for slack in (0, 3, 50):
                yield chance_taut_net(dice, count, many, 9, slack)


def small_taut_nets():
    for net in small_nets():
        if slow_taut(net):
            yield net


def slow_ways(net, one, most):
    """Every way of at most so many roads that begins at one, as tuples (end, length, way)."""
    rows = [(one, 0, [])]
    told = list(rows)
    for turn in range(most):
        rows = [
            (end, length + more, way + [number])
            for at, length, way in rows
            for number, (start, end, more) in enumerate(net[1])
            if start == at
        ]
        told.extend(rows)
    return told


def slow_taut(net):
    """A ring below 0 has one below 0 in it that comes to no place twice, so of at most COUNT roads."""
    count = net[0]
    for one in range(count):
        if any(end == one and length < 0 for end, length, way in slow_ways(net, one, count)):
            return False
    return True


def slow_least(net, one):
    """The least length of a way from one to each place that can be come to, in a taut net."""
    best = {}
    for end, length, way in slow_ways(net, one, net[0]):
        best[end] = min(length, best.get(end, length))
    return best


def slow_heights(net):
    """The least length of any way that ends at each place, in a taut net."""
    tables = [slow_least(net, one) for one in range(net[0])]
    return [min(row[place] for row in tables if place in row) for place in range(net[0])]


def plain_table(net):
    """The least length from each place to each, None for no way, in a taut net: each place may lie between."""
    count, roads = net
    rows = [[0 if one == other else None for other in range(count)] for one in range(count)]
    for start, end, length in roads:
        if rows[start][end] is None or length < rows[start][end]:
            rows[start][end] = length
    for between, one, other in itertools.product(range(count), repeat=3):
        ahead, behind = rows[one][between], rows[between][other]
        if ahead is not None and behind is not None:
            if rows[one][other] is None or ahead + behind < rows[one][other]:
                rows[one][other] = ahead + behind
    return rows


def plain_taut(net):
    """A ring below 0 makes a place of it less than 0 far from itself."""
    return all(row[place] == 0 for place, row in enumerate(plain_table(net)))


def reached_by(net, one):
    """The places come to from one, by adding the ends of roads until none is new."""
    lot = {one}
    for turn in range(net[0]):
        lot |= {end for start, end, length in net[1] if start in lot}
    return sorted(lot)


def begins_nowhere_twice(net, way):
    begins = [net[1][number][0] for number in way]
    return len(begins) == len(set(begins))


def ends_of(net, way):
    """Where a list of roads begins and ends; it fails where one does not begin where the last ended."""
    roads = [net[1][number] for number in way]
    for ahead, behind in zip(roads, roads[1:]):
        assert ahead[1] == behind[0], (net, way)
    return roads[0][0], roads[-1][1]


def sum_of(net, way):
    return sum(net[1][number][2] for number in way)


def broken_roads(net, told):
    """The roads that rise by more than their length along these heights."""
    return [road for road in net[1] if told[road[1]] > told[road[0]] + road[2]]


def refused(case, kind, call, *told):
    """Check that the call is refused with an error of just this class."""
    with case.assertRaises(kind) as caught:
        call(*told)
    case.assertIs(type(caught.exception), kind)
