"""Point 11: falls."""

import itertools
import unittest

from tautroads.errors import NoNet, NoRoad, NoTaut
from tautroads.falls import fall
from tests.helpers import (
    BAD_NETS, FAR, NOT_TAUT, begins_nowhere_twice, big_taut_nets, braid, broken_roads, chain, ends_of, fallen,
    middling_taut_nets, plain_table, plain_taut, reached_by, refused, slow_taut, slow_ways, small_taut_nets, sum_of,
    whole_ring,
)


def slow_fall(net, number):
    """The least length of a ring that begins with this road, or None."""
    start = net[1][number][0]
    rings = [
        length for end, length, way in slow_ways(net, start, net[0]) if way and way[0] == number and end == start
    ]
    return min(rings, default=None)


class Falls(unittest.TestCase):
    def check_fall(self, net, number, told):
        self.assertEqual(told[0], "fall")
        self.assertEqual(len(told), 4)
        much, way, levels = told[1:]
        self.assertIs(type(much), int)
        self.assertIs(type(way), list)
        self.assertIs(type(levels), list)
        self.assertGreaterEqual(much, 0)
        self.assertEqual(way[0], number)
        one, other = ends_of(net, way)
        self.assertEqual(one, other)
        self.assertEqual(sum_of(net, way), much)
        self.assertTrue(begins_nowhere_twice(net, way), (net, way))
        self.assertEqual(len(levels), net[0])
        self.assertEqual(broken_roads(fallen(net, number, much), levels), [], (net, number))
        self.assertLess(max(abs(level) for level in levels), 10 ** 12)

    def check(self, net, number):
        told = fall(net, number)
        self.assertIs(type(told), tuple)
        start, end, length = net[1][number]
        lot = reached_by(net, end)
        if start in lot:
            self.check_fall(net, number, told)
            self.assertTrue(plain_taut(fallen(net, number, told[1])))
            self.assertFalse(plain_taut(fallen(net, number, told[1] + 1)))
        else:
            self.assertEqual(told, ("free", lot), (net, number))
            self.assertTrue(plain_taut(fallen(net, number, 10 ** 15)))
        return told

    def test_small_nets_by_a_slow_search(self):
        seen = {"fall": 0, "free": 0}
        for net in small_taut_nets():
            for number in range(len(net[1])):
                told = self.check(net, number)
                seen[told[0]] += 1
                best = slow_fall(net, number)
                self.assertEqual(told[1] if told[0] == "fall" else None, best, (net, number))
                if best is not None:
                    self.assertTrue(slow_taut(fallen(net, number, best)))
                    self.assertFalse(slow_taut(fallen(net, number, best + 1)))
        self.assertGreater(min(seen.values()), 300)

    def test_bigger_nets(self):
        for net in itertools.chain(middling_taut_nets(), big_taut_nets()):
            rows = plain_table(net)
            for number, (start, end, length) in enumerate(net[1]):
                told = fall(net, number)
                if rows[end][start] is None:
                    self.assertEqual(told, ("free", reached_by(net, end)))
                else:
                    self.check_fall(net, number, told)
                    self.assertEqual(told[1], length + rows[end][start])

    def test_big_nets_stay_taut_and_not_one_further(self):
        for net in big_taut_nets():
            for number in range(0, len(net[1]), 7):
                self.check(net, number)

    def test_a_ring_of_just_0_may_not_fall(self):
        net = (3, [(0, 1, 4), (1, 2, -9), (2, 0, 5)])
        for number in range(3):
            told = self.check(net, number)
            self.assertEqual(told[1], 0)
            self.assertEqual(told[2], [number, (number + 1) % 3, (number + 2) % 3])
        for number in range(20):
            self.assertEqual(self.check(whole_ring(0), number)[1], 0)

    def test_plain_falls(self):
        net = (4, [(0, 1, 5), (1, 0, -2), (1, 0, -3), (1, 2, 7), (3, 1, 1)])
        self.assertEqual(self.check(net, 0)[:3], ("fall", 2, [0, 2]))
        self.assertEqual(self.check(net, 1)[:3], ("fall", 3, [1, 0]))
        self.assertEqual(self.check(net, 2)[:3], ("fall", 2, [2, 0]))
        self.assertEqual(fall(net, 3), ("free", [2]))
        self.assertEqual(fall(net, 4), ("free", [0, 1, 2]))

    def test_a_road_from_a_place_to_itself(self):
        for length in (0, 1, FAR):
            told = self.check((1, [(0, 0, length)]), 0)
            self.assertEqual(told[:3], ("fall", length, [0]))
        # A ring of 0, or a shorter road, at the same place is no way to fall less.
        net = (2, [(0, 1, 2), (1, 0, -2), (0, 0, 0), (0, 0, 6), (0, 0, 3)])
        self.assertEqual(self.check(net, 3)[:3], ("fall", 6, [3]))
        self.assertEqual(self.check(net, 4)[:3], ("fall", 3, [4]))
        self.assertEqual(self.check(net, 2)[:3], ("fall", 0, [2]))

    def test_roads_alike(self):
        net = (2, [(0, 1, 4), (0, 1, 4), (1, 0, 1), (1, 0, 1)])
        for number in range(4):
            told = self.check(net, number)
            self.assertEqual(told[1], 5)
            self.assertEqual(told[2][0], number)

    def test_below_the_least_length(self):
        # The road may fall until its length is far below -(10 ** 9).
        for last in (FAR, 0, -FAR):
            net = (20, chain(20, FAR)[1] + [(19, 0, last)])
            told = self.check(net, 19)
            self.assertEqual(told[1], 19 * FAR + last)
            self.assertEqual(told[2], [19] + list(range(19)))
        net = (20, chain(20, FAR)[1] + [(19, 0, -FAR), (0, 19, FAR), (5, 5, 0)])
        self.assertEqual(self.check(net, 19)[1], 0)
        self.assertEqual(self.check(net, 3)[1], 18 * FAR)

    def test_free_roads_in_a_net_with_far_lengths(self):
        net = braid(-FAR + 1)
        for number in range(57):
            step = number // 3
            self.assertEqual(fall(net, number), ("free", list(range(step + 1, 20))))

    def test_heights_hold_at_places_apart(self):
        # What leads to the ring, from it, and lies apart falls and rises as far as can be.
        tail = [(place, place + 1, -FAR) for place in range(2, 9)]
        head = [(place, place + 1, -FAR) for place in range(11, 18)] + [(18, 0, -FAR)]
        apart = [(9, 10, FAR), (10, 9, -FAR)]
        net = (20, [(0, 1, FAR), (1, 0, FAR), (1, 2, FAR)] + tail[:-1] + head + apart)
        for number in range(len(net[1])):
            self.check(net, number)


class Refused(unittest.TestCase):
    def test_no_net_is_ahead_of_all_else(self):
        for net in BAD_NETS:
            for number in (0, -1, 59, 60, 10 ** 29):
                refused(self, NoNet, fall, net, number)

    def test_no_road_is_ahead_of_no_taut(self):
        for net in [(0, []), (1, []), (20, []), chain(5, 1), braid(FAR)] + NOT_TAUT:
            many = len(net[1])
            for number in (-1, many, many + 1, -many - 1, 10 ** 29, -(10 ** 29)):
                refused(self, NoRoad, fall, net, number)

    def test_no_taut_whatever_road_is_asked(self):
        for net in NOT_TAUT:
            for number in range(len(net[1])):
                refused(self, NoTaut, fall, net, number)


if __name__ == "__main__":
    unittest.main()
