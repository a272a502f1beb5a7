"""Point 6: heights, rings below 0, and the lookers of both."""

import itertools
import unittest

from tautroads.errors import NoNet
from tautroads.heights import heights, shows_heights, shows_ring
from tests.helpers import (
    BAD_NETS, FAR, all_tiny_nets, begins_nowhere_twice, big_taut_nets, braid, broken_roads, chain,
    ends_of, one_shorter, refused, slow_heights, slow_taut, slow_ways, small_nets, sum_of, whole_ring,
)


class Told(unittest.TestCase):
    def check_ring(self, net, told):
        """Check a told ring without the looker, then by it."""
        self.assertEqual(told[0], "ring")
        self.assertEqual(len(told), 2)
        way = told[1]
        self.assertIs(type(way), list)
        one, other = ends_of(net, way)
        self.assertEqual(one, other, net)
        self.assertLess(sum_of(net, way), 0, net)
        self.assertTrue(begins_nowhere_twice(net, way), net)
        self.assertIs(shows_ring(net, way), True)

    def test_small_nets_by_a_slow_search(self):
        seen = {"heights": 0, "ring": 0}
        for net in small_nets():
            told = heights(net)
            self.assertIs(type(told), tuple)
            seen[told[0]] += 1
            if slow_taut(net):
                self.assertEqual(told, ("heights", slow_heights(net)), net)
                self.assertIs(shows_heights(net, told[1]), True)
            else:
                self.check_ring(net, told)
        self.assertGreater(min(seen.values()), 300)

    def test_plain_nets(self):
        self.assertEqual(heights((0, [])), ("heights", []))
        self.assertEqual(heights((1, [])), ("heights", [0]))
        self.assertEqual(heights((3, [(0, 1, -2), (1, 2, 5)])), ("heights", [0, -2, 0]))
        self.assertEqual(heights((3, [(2, 1, -4), (1, 0, 3)])), ("heights", [-1, -4, 0]))
        self.assertEqual(heights((2, [(0, 1, -1), (0, 1, -3), (0, 1, -3)])), ("heights", [0, -3]))

    def test_a_ring_of_just_0_and_of_1_below(self):
        net = (3, [(0, 1, 4), (1, 2, -9), (2, 0, 5)])
        self.assertEqual(heights(net), ("heights", [-4, 0, -9]))
        for number in range(3):
            self.check_ring(one_shorter(net, number), heights(one_shorter(net, number)))

    def test_a_road_from_a_place_to_itself(self):
        self.assertEqual(heights((1, [(0, 0, 0)])), ("heights", [0]))
        self.assertEqual(heights((1, [(0, 0, 7)])), ("heights", [0]))
        self.assertEqual(heights((1, [(0, 0, 7), (0, 0, -1)])), ("ring", [1]))
        self.assertEqual(heights((3, [(0, 1, 2), (2, 2, -FAR)])), ("ring", [1]))

    def test_rings_far_from_where_the_roads_begin(self):
        tail = [(place, place + 1, -FAR) for place in range(17)]
        net = (20, tail[::-1] + [(17, 18, FAR), (18, 19, 0), (19, 17, -FAR)])
        self.assertEqual(heights(net)[0], "heights")
        self.check_ring(one_shorter(net, 18), heights(one_shorter(net, 18)))

    def test_big_nets(self):
        for net in big_taut_nets():
            told = heights(net)
            self.assertEqual(told[0], "heights")
            self.assertEqual(len(told[1]), 20)
            self.assertEqual(broken_roads(net, told[1]), [])
            self.assertEqual(max(told[1]), 0)
            # Each height is 0 or comes by a road from another, so some way has this length.
            for place, height in enumerate(told[1]):
                self.assertTrue(
                    height == 0 or any(told[1][start] + length == height for start, end, length in net[1] if end == place)
                )

    def test_big_lengths(self):
        self.assertEqual(heights(chain(20, -FAR)), ("heights", [-FAR * place for place in range(20)]))
        self.assertEqual(heights(chain(20, FAR)), ("heights", [0] * 20))
        self.assertEqual(heights(whole_ring(0))[0], "heights")
        self.check_ring(whole_ring(-1), heights(whole_ring(-1)))
        self.assertEqual(sorted(heights(whole_ring(-1))[1]), list(range(20)))
        count, roads = braid(-FAR + 1)
        self.check_ring((count, roads[:-1] + [(19, 0, FAR)]), heights((count, roads[:-1] + [(19, 0, FAR)])))

    def test_no_net(self):
        for net in BAD_NETS:
            with self.subTest(net=net):
                refused(self, NoNet, heights, net)


class LookerOfHeights(unittest.TestCase):
    def test_every_short_list_on_tiny_nets(self):
        for net in itertools.islice(all_tiny_nets(), 0, None, 3):
            for told in itertools.product(range(-1, 2), repeat=net[0]):
                right = not broken_roads(net, told)
                self.assertIs(shows_heights(net, list(told)), right, (net, told))

    def test_off_by_one(self):
        net = (3, [(0, 1, -2), (1, 2, 5)])
        for told in ([0, -2, 3], [0, -2, -9], [7, 5, 10], [10 ** 29, -(10 ** 29), -(10 ** 29)]):
            self.assertIs(shows_heights(net, told), True, told)
        for told in ([0, -1, 3], [0, -2, 4], [-1, -2, 3], [-(10 ** 29), 10 ** 29, 0]):
            self.assertIs(shows_heights(net, told), False, told)

    def test_numbers_of_30_figures(self):
        big = 10 ** 30 - 1
        net = (2, [(0, 1, 1), (1, 0, -1)])
        self.assertIs(shows_heights(net, [big - 1, big]), True)
        self.assertIs(shows_heights(net, [-big, -big + 1]), True)
        self.assertIs(shows_heights(net, [big, big]), False)
        self.assertIs(shows_heights(net, [-big, big]), False)

    def test_too_short_and_too_long(self):
        net = (3, [(0, 1, -2)])
        for told in ([], [0], [0, -2], [0, -2, 0, 0], [0] * 200):
            self.assertIs(shows_heights(net, told), False, told)
        self.assertIs(shows_heights((0, []), []), True)
        self.assertIs(shows_heights((0, []), [0]), False)
        self.assertIs(shows_heights((1, []), []), False)
        self.assertIs(shows_heights((20, []), [5] * 20), True)

    def test_a_net_with_a_ring_below_0_has_none(self):
        for told in itertools.product(range(-3, 4), repeat=2):
            self.assertIs(shows_heights((2, [(0, 1, 1), (1, 0, -2)]), list(told)), False)
        self.assertIs(shows_heights((1, [(0, 0, -1)]), [0]), False)

    def test_no_net(self):
        for net in BAD_NETS:
            for told in ([], [0], [0, 0], [0] * 20):
                with self.subTest(net=net, told=told):
                    refused(self, NoNet, shows_heights, net, told)


class LookerOfRings(unittest.TestCase):
    # 0 to 1 and back comes to -1, 1 to 2 and back to 0, and a road from 2 to itself to -5.
    NET = (3, [(0, 1, 2), (1, 0, -3), (1, 2, 4), (2, 1, -4), (2, 2, -5), (2, 2, 5)])

    def test_rings_below_0(self):
        for way in ([0, 1], [1, 0], [4], [4, 4], [0, 1, 0, 1], [0, 2, 3, 1], [2, 4, 3], [2, 3, 1, 0], [4, 5, 4], [4] * 200):
            self.assertIs(shows_ring(self.NET, way), True, way)

    def test_what_is_none(self):
        for way in (
            [], [0], [1], [0, 0], [0, 1, 0], [2, 3], [3, 2], [5], [4, 5], [2, 4, 5, 3], [0, 2, 5, 3, 1], [1, 2], [4, 3],
            [6], [-1], [-2], [0, -5], [-6, 1], [10 ** 29], [-(10 ** 29)], [0, 1, 6], [4, -2], [4, 10 ** 29],
        ):
            self.assertIs(shows_ring(self.NET, way), False, way)

    def test_nets_without_roads(self):
        for net in ((0, []), (1, []), (20, [])):
            for way in ([], [0], [-1], [5]):
                self.assertIs(shows_ring(net, way), False)

    def test_every_short_list_on_tiny_nets(self):
        for net in itertools.islice(all_tiny_nets(), 0, None, 3):
            count, roads = net
            rings = [
                way for one in range(count) for end, length, way in slow_ways(net, one, 3)
                if way and end == one and length < 0
            ]
            for many in range(4):
                for way in itertools.product(range(-1, len(roads) + 1), repeat=many):
                    self.assertIs(shows_ring(net, list(way)), list(way) in rings, (net, way))

    def test_no_net(self):
        for net in BAD_NETS:
            for way in ([], [0], [-1], [99]):
                with self.subTest(net=net, way=way):
                    refused(self, NoNet, shows_ring, net, way)


if __name__ == "__main__":
    unittest.main()
