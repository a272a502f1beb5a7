"""Points 4 and 5: nets, places and ways."""

import itertools
import unittest

from tautroads.errors import NoNet, NoPlace, NoWay
from tautroads.nets import is_way, length_of
from tests.helpers import BAD_NETS, FAR, all_tiny_nets, refused, slow_ways

# Two roads alike (0, 1), a way on (2), one back (3), one from a place to itself (4), one that is alone (5).
NET = (5, [(0, 1, 3), (0, 1, 3), (1, 2, -7), (2, 0, 5), (2, 2, -2), (4, 3, FAR)])

WAYS = [
    (0, 0, [], 0),
    (4, 4, [], 0),
    (0, 1, [0], 3),
    (0, 1, [1], 3),
    (0, 2, [0, 2], -4),
    (0, 2, [1, 2, 3, 0, 2, 3, 0, 2], -2),
    (2, 2, [4], -2),
    (2, 2, [4, 4, 4], -6),
    (0, 0, [0, 2, 4, 3], -1),
    (4, 3, [5], FAR),
    (2, 2, [4] * 200, -400),
]

NO_WAYS = [
    (0, 1, []),
    (1, 0, []),
    (0, 1, [2]),
    (0, 2, [0]),
    (1, 1, [0]),
    (0, 0, [0]),
    (0, 2, [0, 3]),
    (0, 1, [0, 1]),
    (0, 3, [5]),
    (2, 0, [3, 4]),
    (0, 1, [6]),
    (4, 3, [-1]),
    (2, 2, [-2]),
    (0, 2, [0, -4]),
    (0, 1, [10 ** 29]),
    (0, 1, [-(10 ** 29)]),
    (0, 1, [0, 6]),
    (0, 1, [0, -1]),
    (0, 0, [6]),
    (2, 2, [4] * 199 + [3]),
]


class Nets(unittest.TestCase):
    def test_nets_at_the_bounds_are_let_by(self):
        for net in (
            (1, []),
            (20, []),
            (1, [(0, 0, FAR), (0, 0, -FAR)]),
            (20, [(0, 19, FAR)] * 30 + [(19, 0, -FAR)] * 30),
        ):
            self.assertIs(is_way(net, 0, 0, []), True)
            self.assertEqual(length_of(net, 0, 0, []), 0)
        self.assertEqual(length_of((20, [(19, 19, FAR)] * 60), 19, 19, list(range(60))), 60 * FAR)

    def test_what_is_no_net_is_refused_ahead_of_all_else(self):
        for net in BAD_NETS:
            for one, other in ((0, 0), (0, 1), (-1, 0), (0, -1), (99, 99)):
                for way in ([], [0], [99], [-1]):
                    with self.subTest(net=net, one=one, other=other, way=way):
                        refused(self, NoNet, is_way, net, one, other, way)
                        refused(self, NoNet, length_of, net, one, other, way)


class Places(unittest.TestCase):
    def test_what_is_no_place_is_refused_ahead_of_no_way(self):
        for count in (0, 1, 5, 20):
            net = (count, [])
            for place in (-1, count, count + 1, -count - 1, 10 ** 29, -(10 ** 29)):
                for one, other in ((place, 0), (0, place), (place, place)):
                    for way in ([], [0], [-1]):
                        with self.subTest(net=net, one=one, other=other, way=way):
                            refused(self, NoPlace, is_way, net, one, other, way)
                            refused(self, NoPlace, length_of, net, one, other, way)

    def test_the_last_place_is_one(self):
        for count in (1, 2, 20):
            self.assertIs(is_way((count, []), count - 1, count - 1, []), True)


class Ways(unittest.TestCase):
    def test_ways_and_their_lengths(self):
        for one, other, way, length in WAYS:
            with self.subTest(one=one, other=other, way=way):
                self.assertIs(is_way(NET, one, other, way), True)
                self.assertEqual(length_of(NET, one, other, way), length)

    def test_lists_that_are_no_ways(self):
        for one, other, way in NO_WAYS:
            with self.subTest(one=one, other=other, way=way):
                self.assertIs(is_way(NET, one, other, way), False)
                refused(self, NoWay, length_of, NET, one, other, way)

    def test_a_ring_below_0_is_a_way_too(self):
        net = (2, [(0, 1, -FAR), (1, 0, -1)])
        self.assertEqual(length_of(net, 0, 0, [0, 1, 0, 1]), -2 * FAR - 2)

    def test_every_short_list_on_tiny_nets(self):
        for net in itertools.islice(all_tiny_nets(), 0, None, 5):
            count, roads = net
            lists = [list(way) for many in range(4) for way in itertools.product(range(-1, len(roads) + 1), repeat=many)]
            for one in range(count):
                ways = {(end, tuple(way)): length for end, length, way in slow_ways(net, one, 3)}
                for other in range(count):
                    for way in lists:
                        length = ways.get((other, tuple(way)))
                        self.assertIs(is_way(net, one, other, way), length is not None, (net, one, other, way))
                        if length is None:
                            refused(self, NoWay, length_of, net, one, other, way)
                        else:
                            self.assertEqual(length_of(net, one, other, way), length)


if __name__ == "__main__":
    unittest.main()
