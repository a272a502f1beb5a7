"""Points 12 and 13: least ways by a road and without it, tight and needed roads, detours."""

import itertools
import unittest

from tautroads.errors import NoNet, NoPlace, NoRoad, NoTaut
from tautroads.least import shows_least
from tautroads.shut import by, detours, needed, tight, without
from tests.helpers import (
    BAD_NETS, FAR, NOT_TAUT, added, begins_nowhere_twice, big_taut_nets, braid, broken_roads, chain, ends_of,
    middling_taut_nets, net_without, plain_table, reached_by, refused, slow_ways, small_taut_nets, sum_of, whole_ring,
)

# Two least ways from 0 to 3, by 0 and 2 and by 1 and 3; a longer one by 4; from 3 a ring of 0 by 5 and 6;
# to 5 leads only 7; 8 stands beside it, alike but longer; 9 leads from 4 to itself.
NET = (6, [
    (0, 1, 1), (0, 2, 3), (1, 3, 4), (2, 3, 2), (0, 3, 9), (3, 4, -2), (4, 3, 2), (3, 5, 1), (3, 5, 8), (4, 4, 0),
])


def pairs(net):
    return itertools.product(range(net[0]), repeat=2)


def bigger_nets():
    """Nets too big for a slow search, not too many."""
    yield from itertools.islice(middling_taut_nets(), 0, None, 5)
    yield from big_taut_nets()


class By(unittest.TestCase):
    def check(self, net, one, other, number, length):
        told = by(net, one, other, number)
        if length is None:
            self.assertIsNone(told, (net, one, other, number))
            return
        self.assertIs(type(told), tuple)
        self.assertEqual(len(told), 2)
        self.assertEqual(told[0], length, (net, one, other, number))
        way = told[1]
        self.assertIs(type(way), list)
        self.assertIn(number, way)
        self.assertLessEqual(len(way), 60)
        self.assertEqual(ends_of(net, way), (one, other))
        self.assertEqual(sum_of(net, way), length)

    def test_small_nets_by_a_slow_search(self):
        seen = {True: 0, False: 0}
        for net in small_taut_nets():
            for one in range(net[0]):
                best = {}
                # A least way ahead of the road, it, and a least way behind it.
                for end, length, way in slow_ways(net, one, 2 * net[0] - 1):
                    for number in set(way):
                        best[end, number] = min(length, best.get((end, number), length))
                for other, number in itertools.product(range(net[0]), range(len(net[1]))):
                    self.check(net, one, other, number, best.get((other, number)))
                    seen[(other, number) in best] += 1
        self.assertGreater(min(seen.values()), 300)

    def test_bigger_nets(self):
        for net in bigger_nets():
            rows = plain_table(net)
            for number, (start, end, length) in list(enumerate(net[1]))[::5]:
                for one, other in list(pairs(net))[::3]:
                    self.check(net, one, other, number, added(rows[one][start], length, rows[end][other]))

    def test_plain_ways(self):
        self.assertEqual(by(NET, 0, 3, 4), (9, [4]))
        self.assertEqual(by(NET, 0, 3, 0), (5, [0, 2]))
        self.assertEqual(by(NET, 0, 5, 6), (6, [0, 2, 5, 6, 7]))
        self.assertEqual(by(NET, 0, 5, 8)[0], 13)
        self.assertIsNone(by(NET, 5, 0, 0))
        self.assertIsNone(by(NET, 3, 3, 0))
        self.assertIsNone(by(NET, 0, 2, 0))
        self.assertIsNone(by(NET, 5, 5, 7))

    def test_of_a_place_and_itself_it_is_a_ring(self):
        self.check(NET, 3, 3, 5, 0)
        self.check(NET, 4, 4, 5, 0)
        self.check(NET, 3, 3, 9, 0)
        self.check(NET, 4, 4, 9, 0)
        self.assertEqual(by((1, [(0, 0, FAR), (0, 0, 2)]), 0, 0, 0), (FAR, [0]))
        self.assertEqual(by((2, [(0, 1, 5), (1, 0, -3)]), 0, 0, 1), (2, [0, 1]))
        self.assertIsNone(by((2, [(0, 1, 5)]), 0, 0, 0))

    def test_places_come_to_twice(self):
        # Out to the far end of a row and back again.
        roads = chain(20, FAR)[1] + [(place + 1, place, -FAR + 1) for place in range(19)] + [(19, 19, 3)]
        told = by((20, roads), 0, 0, 38)
        self.assertEqual(told, (22, list(range(19)) + [38] + list(range(19, 38))[::-1]))
        self.assertEqual(by((20, roads), 5, 5, 0)[0], 5)

    def test_far_lengths(self):
        net = (20, chain(20, FAR)[1] + [(19, 0, FAR)])
        for number in range(20):
            self.check(net, 0, 0, number, 20 * FAR)
            self.check(net, number, (number + 1) % 20, number, FAR)
            self.check(net, (number + 1) % 20, number, number, 39 * FAR)
        net = chain(20, -FAR)
        self.check(net, 0, 19, 7, -19 * FAR)


class Without(unittest.TestCase):
    def check(self, net, one, other, number):
        told = without(net, one, other, number)
        self.assertIs(type(told), tuple)
        less = net_without(net, number)
        lot = reached_by(less, one)
        if other not in lot:
            self.assertEqual(told, ("none", lot), (net, one, other, number))
            return None
        self.assertEqual(told[0], "way")
        self.assertEqual(len(told), 3)
        way, levels = told[1:]
        self.assertIs(type(way), list)
        self.assertIs(type(levels), list)
        self.assertNotIn(number, way)
        self.assertEqual(ends_of(net, way) if way else (one, one), (one, other))
        self.assertTrue(begins_nowhere_twice(net, way))
        self.assertEqual(len(levels), net[0])
        self.assertEqual(broken_roads(less, levels), [])
        self.assertLess(max(abs(level) for level in levels), 10 ** 12)
        self.assertEqual(levels[other] - levels[one], sum_of(net, way))
        there = [at if at < number else at - 1 for at in way]
        self.assertIs(shows_least(less, one, other, ("way", there, levels)), True)
        return sum_of(net, way)

    def test_small_nets_by_a_slow_search(self):
        seen = {True: 0, False: 0}
        for net in small_taut_nets():
            for one, number in itertools.product(range(net[0]), range(len(net[1]))):
                best = {}
                for end, length, way in slow_ways(net, one, net[0]):
                    if number not in way:
                        best[end] = min(length, best.get(end, length))
                for other in range(net[0]):
                    self.assertEqual(self.check(net, one, other, number), best.get(other), (net, one, other, number))
                    seen[other in best] += 1
        self.assertGreater(min(seen.values()), 300)

    def test_bigger_nets(self):
        for net in bigger_nets():
            for number in range(0, len(net[1]), 9):
                rows = plain_table(net_without(net, number))
                for one, other in list(pairs(net))[::4]:
                    self.assertEqual(self.check(net, one, other, number), rows[one][other])

    def test_plain_ways(self):
        self.assertEqual(without(NET, 0, 3, 0)[1], [1, 3])
        self.assertEqual(without(NET, 0, 3, 1)[1], [0, 2])
        self.assertEqual(without(NET, 3, 5, 7)[1], [8])
        self.assertEqual(without(NET, 3, 5, 8)[1], [7])
        self.assertEqual(without(NET, 1, 3, 2), ("none", [1]))
        self.assertEqual(without(NET, 3, 4, 5), ("none", [3, 5]))
        self.assertEqual(without((2, [(0, 1, 2), (0, 1, 2), (0, 1, 2)]), 0, 1, 1)[1], [0])
        self.assertEqual(self.check(NET, 3, 3, 5), 0)
        self.assertEqual(self.check((1, [(0, 0, 0)]), 0, 0, 0), 0)

    def test_heights_need_not_suit_the_road_that_is_shut(self):
        net = (2, [(0, 1, -5), (0, 1, 5)])
        told = without(net, 0, 1, 0)
        self.assertEqual(told[:2], ("way", [1]))
        self.assertEqual(told[2][1] - told[2][0], 5)

    def test_of_a_place_and_itself(self):
        for net in (NET, whole_ring(0), braid(FAR)):
            for one, number in itertools.product(range(net[0]), range(0, len(net[1]), 3)):
                self.assertEqual(self.check(net, one, one, number), 0)

    def test_a_net_that_only_the_road_keeps_from_being_taut(self):
        for net, number in (((1, [(0, 0, -1)]), 0), ((2, [(0, 1, 1), (1, 0, -2)]), 1), ((2, [(0, 1, 1), (1, 0, -2)]), 0)):
            for one, other in pairs(net):
                refused(self, NoTaut, without, net, one, other, number)


class Tight(unittest.TestCase):
    """The tight roads, the needed ones and the detours hang together, so they are looked at together."""

    def check(self, net, one, other, may, must):
        """Check the three against the tight roads and a dict of the needed ones with what their detours are more."""
        self.assertEqual(tight(net, one, other), may, (net, one, other))
        self.assertEqual(needed(net, one, other), sorted(must), (net, one, other))
        self.assertEqual(detours(net, one, other), sorted(must.items()), (net, one, other))

    def test_small_nets_by_a_slow_search(self):
        seen = {"may": 0, "must": 0, "none": 0, "more": 0}
        for net in small_taut_nets():
            rows = [plain_table(net_without(net, number)) for number in range(len(net[1]))]
            for one in range(net[0]):
                found = slow_ways(net, one, 2 * net[0] - 1)
                for other in range(net[0]):
                    best = min([length for end, length, way in found if end == other], default=None)
                    ways = [set(way) for end, length, way in found if end == other and length == best]
                    must = {}
                    for number in sorted(set.intersection(*ways) if ways else []):
                        around = rows[number][one][other]
                        must[number] = None if around is None else around - best
                    may = sorted(set().union(*ways))
                    self.check(net, one, other, may, must)
                    seen["may"] += len(may) > len(must)
                    seen["must"] += len(must) > 1
                    seen["none"] += not ways
                    seen["more"] += any(must.values())
        self.assertGreater(min(seen.values()), 100)

    def test_bigger_nets(self):
        for net in bigger_nets():
            rows = plain_table(net)
            less = [plain_table(net_without(net, number)) for number in range(len(net[1]))]
            for one, other in list(pairs(net))[::7]:
                best = rows[one][other]
                may, must = [], {}
                for number, (start, end, length) in enumerate(net[1]):
                    if best is not None and added(rows[one][start], length, rows[end][other]) == best:
                        may.append(number)
                    around = less[number][one][other]
                    if around != best:
                        must[number] = None if around is None else around - best
                self.check(net, one, other, may, must)

    def test_two_least_ways_side_by_side(self):
        self.check(NET, 0, 3, [0, 1, 2, 3, 5, 6, 9], {})
        self.check(NET, 0, 5, [0, 1, 2, 3, 5, 6, 7, 9], {7: 7})
        self.check(NET, 0, 4, [0, 1, 2, 3, 5, 6, 9], {5: None})
        self.check(NET, 0, 1, [0], {0: None})
        self.check((2, [(0, 1, 2), (0, 1, 2)]), 0, 1, [0, 1], {})
        self.check((2, [(0, 1, 2), (0, 1, 3)]), 0, 1, [0], {0: 1})

    def test_rings_of_0_that_a_least_way_may_take_in(self):
        self.check(NET, 3, 5, [5, 6, 7, 9], {7: 7})
        self.check(NET, 3, 3, [5, 6, 9], {})
        self.check(NET, 4, 4, [5, 6, 9], {})
        # One road of it is needed, since it lies on the only way; the ring's other roads are not.
        net = (3, [(0, 1, 4), (1, 2, -9), (2, 0, 5)])
        self.check(net, 0, 1, [0, 1, 2], {0: None})
        self.check(net, 0, 2, [0, 1, 2], {0: None, 1: None})
        self.check((2, [(0, 0, 0), (0, 1, 1), (1, 1, 0), (1, 1, 1)]), 0, 1, [0, 1, 2], {1: None})

    def test_a_place_and_itself(self):
        self.check(NET, 0, 0, [], {})
        self.check(NET, 5, 5, [], {})
        self.check((1, []), 0, 0, [], {})
        self.check((1, [(0, 0, 0), (0, 0, 1), (0, 0, 0)]), 0, 0, [0, 2], {})
        self.check(whole_ring(0), 7, 7, list(range(20)), {})

    def test_no_way_at_all(self):
        self.check(NET, 5, 0, [], {})
        self.check(NET, 1, 2, [], {})
        self.check(NET, 3, 0, [], {})
        self.check((20, []), 0, 19, [], {})
        self.check((3, [(0, 0, 0), (2, 2, 0), (1, 0, 0)]), 0, 2, [], {})

    def test_far_lengths(self):
        self.check(chain(20, -FAR), 0, 19, list(range(19)), {number: None for number in range(19)})
        row = chain(20, -FAR)[1]
        self.check((20, row + [(0, 19, FAR)]), 0, 19, list(range(19)), {number: 20 * FAR for number in range(19)})
        steps = range(2, 57, 3)
        self.check(braid(FAR), 0, 19, [*steps, 57], {number: 1 for number in steps})

    def test_kinds(self):
        self.assertIs(type(tight(NET, 0, 5)), list)
        self.assertIs(type(needed(NET, 0, 5)), list)
        self.assertIs(type(detours(NET, 0, 5)), list)
        self.assertIs(type(detours(NET, 0, 5)[0]), tuple)


class Refused(unittest.TestCase):
    WITH_ROAD = [by, without]
    ALONE = [tight, needed, detours]

    def check(self, kind, net, one, other, numbers):
        for ask in self.ALONE:
            with self.subTest(ask=ask, net=net, one=one, other=other):
                refused(self, kind, ask, net, one, other)
        for ask, number in itertools.product(self.WITH_ROAD, numbers):
            with self.subTest(ask=ask, net=net, one=one, other=other, number=number):
                refused(self, kind, ask, net, one, other, number)

    def test_no_net_is_ahead_of_all_else(self):
        for net in BAD_NETS:
            for one, other in ((0, 0), (0, 1), (-1, 0), (0, -1), (99, 99)):
                self.check(NoNet, net, one, other, (0, -1, 60, 10 ** 29))

    def test_no_place_is_ahead_of_no_road_and_no_taut(self):
        for net in [(0, []), (1, []), (20, []), chain(5, 1)] + NOT_TAUT:
            for place in (-1, net[0], net[0] + 1, 10 ** 29, -(10 ** 29)):
                for one, other in ((place, 0), (0, place), (place, place)):
                    self.check(NoPlace, net, one, other, (0, -1, 60, len(net[1])))

    def test_no_road_is_ahead_of_no_taut(self):
        for net in [(1, []), (20, []), chain(5, 1), braid(FAR)] + NOT_TAUT:
            many = len(net[1])
            for ask, one, other in itertools.product(self.WITH_ROAD, (0, net[0] - 1), (0, net[0] - 1)):
                for number in (-1, many, many + 1, -many - 1, 10 ** 29, -(10 ** 29)):
                    with self.subTest(ask=ask, net=net, number=number):
                        refused(self, NoRoad, ask, net, one, other, number)

    def test_no_taut_whatever_is_asked(self):
        for net in NOT_TAUT:
            for one, other in pairs(net):
                self.check(NoTaut, net, one, other, range(len(net[1])))


if __name__ == "__main__":
    unittest.main()
