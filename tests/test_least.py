"""Points 7 and 8: least ways, what shows them, and their looker."""

import itertools
import unittest

from tautroads.errors import NoNet, NoPlace, NoTaut
from tautroads.least import least, shows_least
from tests.helpers import (
    BAD_NETS, FAR, NOT_TAUT, all_tiny_nets, begins_nowhere_twice, big_taut_nets, braid, broken_roads, chain,
    ends_of, one_shorter, reached_by, refused, slow_least, slow_taut, slow_ways, small_nets, sum_of, whole_ring,
)


class Told(unittest.TestCase):
    def check_way(self, net, one, other, told):
        """Check a told way and its heights without the looker, then by it."""
        self.assertEqual(told[0], "way")
        self.assertEqual(len(told), 3)
        way, levels = told[1:]
        self.assertIs(type(way), list)
        self.assertIs(type(levels), list)
        self.assertEqual(ends_of(net, way) if way else (one, one), (one, other))
        self.assertTrue(begins_nowhere_twice(net, way), (net, way))
        self.assertEqual(len(levels), net[0])
        self.assertEqual(broken_roads(net, levels), [], net)
        self.assertEqual(levels[other] - levels[one], sum_of(net, way), net)
        self.assertLess(max(abs(level) for level in levels), 10 ** 12)
        self.assertIs(shows_least(net, one, other, told), True)

    def check_least(self, net, one, other):
        told = least(net, one, other)
        self.assertIs(type(told), tuple)
        lot = reached_by(net, one)
        if other in lot:
            self.check_way(net, one, other, told)
        else:
            self.assertEqual(told, ("none", lot), net)
            self.assertIs(shows_least(net, one, other, told), True)
        return told

    def test_small_nets_by_a_slow_search(self):
        seen = {"way": 0, "none": 0, "ring": 0}
        for net in small_nets():
            taut = slow_taut(net)
            for one in range(net[0]):
                best = slow_least(net, one) if taut else {}
                for other in range(net[0]):
                    if not taut:
                        seen["ring"] += 1
                        refused(self, NoTaut, least, net, one, other)
                        continue
                    told = self.check_least(net, one, other)
                    seen[told[0]] += 1
                    if told[0] == "way":
                        self.assertEqual(sum_of(net, told[1]), best[other], (net, one, other))
                    else:
                        self.assertEqual(told[1], sorted(best), (net, one, other))
        self.assertGreater(min(seen.values()), 300)

    def test_plain_nets(self):
        net = (4, [(0, 1, 5), (0, 2, 2), (2, 1, 2), (2, 1, 1), (1, 0, -3), (3, 0, 1)])
        self.assertEqual(least(net, 0, 1)[1], [1, 3])
        self.assertEqual(least(net, 3, 1)[1], [5, 1, 3])
        self.assertEqual(least(net, 2, 0)[1], [3, 4])
        self.assertEqual(least(net, 0, 3), ("none", [0, 1, 2]))
        self.assertEqual(least((3, [(2, 0, -1)]), 2, 1), ("none", [0, 2]))
        self.assertEqual(least((20, []), 19, 0), ("none", [19]))

    def test_from_a_place_to_itself(self):
        for net in ((1, []), (1, [(0, 0, 0)]), (1, [(0, 0, 3)]), (20, []), (2, [(0, 1, -4), (1, 0, 4)]), whole_ring(0)):
            for one in range(net[0]):
                self.check_least(net, one, one)
                self.assertEqual(sum_of(net, least(net, one, one)[1]), 0)

    def test_big_nets_from_each_place_to_each(self):
        for net in big_taut_nets():
            for one in range(20):
                for other in range(20):
                    self.check_least(net, one, other)

    def test_far_lengths(self):
        for length in (FAR, -FAR):
            net = chain(20, length)
            told = self.check_least(net, 0, 19)
            self.assertEqual(told[1], list(range(19)))
            self.assertEqual(self.check_least(net, 3, 2), ("none", list(range(3, 20))))
        self.assertEqual(sum_of(braid(FAR), least(braid(FAR), 0, 19)[1]), 19 * (FAR - 1))

    def test_heights_hold_where_no_way_leads_too(self):
        # From 10 only a rise of 9 steps can be gone; what leads there falls as far as can be.
        rise = [(place, place + 1, FAR) for place in range(10, 19)]
        fall = [(place, place + 1, -FAR) for place in range(10)]
        for roads in (rise + fall, fall + rise, rise + fall + [(0, 19, -FAR)], [(0, 19, -FAR), (9, 19, -FAR)] + rise):
            for one in (0, 9, 10, 15, 19):
                for other in range(20):
                    self.check_least((20, roads), one, other)

    def test_no_taut_wherever_the_ring_is(self):
        for net in NOT_TAUT:
            for one, other in itertools.product(range(net[0]), repeat=2):
                with self.subTest(net=net, one=one, other=other):
                    refused(self, NoTaut, least, net, one, other)

    def test_a_ring_of_just_0_is_let_by(self):
        net = (3, [(0, 1, 4), (1, 2, -9), (2, 0, 5)])
        for one, other in itertools.product(range(3), repeat=2):
            self.check_least(net, one, other)
            for number in range(3):
                refused(self, NoTaut, least, one_shorter(net, number), one, other)


class Order(unittest.TestCase):
    PAPERS = [("way", [], []), ("way", [99], [0]), ("none", []), ("none", [0])]

    def test_no_net_is_ahead_of_all_else(self):
        for net in BAD_NETS:
            for one, other in ((0, 0), (0, 1), (-1, 0), (0, -1), (99, 99)):
                with self.subTest(net=net, one=one, other=other):
                    refused(self, NoNet, least, net, one, other)
                    for told in self.PAPERS:
                        refused(self, NoNet, shows_least, net, one, other, told)

    def test_no_place_is_ahead_of_no_taut(self):
        for net in [(0, []), (1, []), (20, [])] + NOT_TAUT:
            count = net[0]
            for place in (-1, count, count + 1, 10 ** 29, -(10 ** 29)):
                for one, other in ((place, 0), (0, place), (place, place)):
                    with self.subTest(net=net, one=one, other=other):
                        refused(self, NoPlace, least, net, one, other)
                        for told in self.PAPERS:
                            refused(self, NoPlace, shows_least, net, one, other, told)


class Looker(unittest.TestCase):
    # The least way from 0 to 2 is by 0 and 1, of length 1; from 0 none leads to 3 and 4.
    NET = (5, [(0, 1, 3), (1, 2, -2), (0, 2, 2), (2, 1, 2), (3, 0, 1), (4, 3, -6), (3, 4, 6), (1, 1, 0)])
    LEVELS = [0, 3, 1, 0, 6]

    def check(self, right, one, other, *told):
        self.assertIs(shows_least(self.NET, one, other, told), right, (one, other, told))

    def test_ways_that_are_shown(self):
        self.check(True, 0, 2, "way", [0, 1], self.LEVELS)
        self.check(True, 0, 2, "way", [0, 7, 1, 3, 1], self.LEVELS)
        self.check(True, 0, 0, "way", [], self.LEVELS)
        self.check(True, 1, 1, "way", [7, 7], self.LEVELS)
        self.check(True, 0, 2, "way", [0, 1], [5, 8, 6, 4 + 10 ** 12, 10 + 10 ** 12])
        self.check(True, 0, 2, "way", [0, 1], [10 ** 29 - 9, 10 ** 29 - 6, 10 ** 29 - 8, 10 ** 29, 10 ** 29 + 6])

    def test_a_way_that_is_none(self):
        for way in ([], [0], [1], [1, 0], [0, 3], [0, 1, 3], [0, 1, 4], [8], [0, -7], [-8, 1], [0, 1, 10 ** 29], [0, 1, -1]):
            self.check(False, 0, 2, "way", way, self.LEVELS)
        self.check(False, 0, 1, "way", [0, 1], self.LEVELS)
        self.check(False, 1, 2, "way", [0, 1], self.LEVELS)
        self.check(False, 0, 3, "way", [], self.LEVELS)

    def test_a_way_that_is_not_least(self):
        self.check(False, 0, 2, "way", [2], self.LEVELS)
        self.check(False, 0, 2, "way", [2], [0, 3, 2, 0, 6])
        self.check(False, 0, 2, "way", [2], [0, 4, 2, 0, 6])

    def test_heights_that_are_none(self):
        for levels in (
            [], [0, 3, 1], [0, 3, 1, 0], [0, 3, 1, 0, 6, 0], [0] * 200,
            [0, 3, 1, 0, 5], [0, 3, 1, 0, 7], [0, 4, 1, 0, 6], [0, 2, 1, 0, 6], [0, 3, 1, -2, 4],
            [0, 3, 1, 0, 10 ** 29], [0, 3, 1, -(10 ** 29), 6],
        ):
            self.check(False, 0, 2, "way", [0, 1], levels)

    def test_a_difference_off_by_one(self):
        # These are heights, but rise by less than the way is long, or by more than the other way falls.
        self.check(False, 0, 2, "way", [0, 1], [0, 2, 0, 0, 6])
        self.check(False, 0, 1, "way", [0], [0, 2, 0, 0, 6])
        self.check(False, 0, 0, "way", [0, 1, 3, 7, 1], self.LEVELS)
        self.check(False, 1, 2, "way", [1], [0, 2, 1, 0, 6])

    def test_lots_that_show_it(self):
        self.check(True, 0, 3, "none", [0, 1, 2])
        self.check(True, 0, 4, "none", [0, 1, 2])
        self.check(True, 1, 0, "none", [1, 2])
        self.check(True, 2, 4, "none", [1, 2])
        self.check(True, 1, 3, "none", [0, 1, 2])

    def test_lots_that_do_not(self):
        for lot in (
            [], [0], [0, 1], [0, 2], [1, 2], [0, 1, 2, 3], [0, 1, 2, 4], [0, 1, 2, 3, 4], [0, 2, 1], [2, 1, 0],
            [0, 1, 1, 2], [0, 1, 2, 2], [0, 0, 1, 2], [-1, 0, 1, 2], [0, 1, 2, 5], [0, 1, 2, 10 ** 29],
            [-(10 ** 29), 0, 1, 2], [0] * 200,
        ):
            self.check(False, 0, 3, "none", lot)
        self.check(False, 0, 2, "none", [0, 1, 2])
        self.check(False, 0, 0, "none", [0, 1, 2])
        self.check(False, 3, 0, "none", [0, 1, 2])
        self.check(False, 3, 0, "none", [3, 4])

    def test_lots_of_a_net_without_roads(self):
        net = (3, [])
        for many in range(4):
            for lot in itertools.permutations(range(3), many):
                right = list(lot) == sorted(lot) and 1 in lot and 2 not in lot
                self.assertIs(shows_least(net, 1, 2, ("none", list(lot))), right)
        for lot in ([-1, 1], [1, 3], [1, 1], [-(10 ** 29), 1], [1, 10 ** 29]):
            self.assertIs(shows_least(net, 1, 2, ("none", lot)), False)
        self.assertIs(shows_least(net, 1, 1, ("none", [1])), False)

    def test_both_forms_on_nets_that_are_not_taut(self):
        for net in NOT_TAUT:
            for one, other in itertools.product((0, net[0] - 1), repeat=2):
                for told in (("way", [], [0] * net[0]), ("way", [0], [FAR] * net[0]), ("way", [], [])):
                    self.assertIs(shows_least(net, one, other, told), False)
        net = (3, [(0, 1, 1), (2, 2, -1), (2, 0, 5)])
        self.assertIs(shows_least(net, 0, 2, ("none", [0, 1])), True)
        self.assertIs(shows_least(net, 0, 2, ("none", [0])), False)
        self.assertIs(shows_least(net, 0, 1, ("way", [0], [0, 1, 0])), False)

    def test_every_short_paper_on_tiny_nets(self):
        for net in itertools.islice(all_tiny_nets(), 0, None, 11):
            count, roads = net
            lists = [list(way) for many in range(3) for way in itertools.product(range(-1, len(roads) + 1), repeat=many)]
            levels = [list(told) for told in itertools.product(range(-1, 2), repeat=count)]
            shown = [told for told in levels if not broken_roads(net, told)]
            for one, other in itertools.product(range(count), repeat=2):
                ways = {tuple(way): length for end, length, way in slow_ways(net, one, 2) if end == other}
                for way in lists:
                    length = ways.get(tuple(way))
                    for told in levels:
                        right = length is not None and told in shown and told[other] - told[one] == length
                        self.assertIs(shows_least(net, one, other, ("way", way, told)), right, (net, one, other, way, told))

    def test_every_lot_on_tiny_nets(self):
        for net in itertools.islice(all_tiny_nets(), 0, None, 3):
            count, roads = net
            for one, other in itertools.product(range(count), repeat=2):
                for many in range(count + 1):
                    for lot in itertools.combinations(range(count), many):
                        left = [road for road in roads if road[0] in lot and road[1] not in lot]
                        right = one in lot and other not in lot and not left
                        self.assertIs(shows_least(net, one, other, ("none", list(lot))), right, (net, one, other, lot))


if __name__ == "__main__":
    unittest.main()
