"""Points 14 and 15: ways of just so many roads, and ways through stops."""

import itertools
import random
import unittest

from tautroads.errors import NoCount, NoNet, NoPlace, NoTaut
from tautroads.stops import best_order, counted, through
from tests.helpers import (
    BAD_NETS, FAR, NOT_TAUT, big_taut_nets, braid, chain, ends_of, middling_taut_nets, plain_table, refused, slow_ways,
    small_taut_nets, sum_of, whole_ring,
)

# A ring by 0, 1 and 2 of length 3, two roads back, a road from 2 to itself, and 3, from which nothing leads.
NET = (4, [(0, 1, 1), (1, 2, 1), (2, 0, 1), (1, 0, 4), (2, 1, 0), (2, 2, 2), (2, 3, -5)])


def ladder(net, one, k):
    """The least length of a way of just k roads from one to each place that such a way ends at."""
    if k == 0:
        return {one: 0}
    ahead = ladder(net, one, k - 1)
    best = {}
    for start, end, length in net[1]:
        if start in ahead:
            best[end] = min(ahead[start] + length, best.get(end, ahead[start] + length))
    return best


class Counted(unittest.TestCase):
    def check(self, net, one, other, k, length):
        told = counted(net, one, other, k)
        if length is None:
            self.assertIsNone(told, (net, one, other, k))
            return
        self.assertIs(type(told), tuple)
        self.assertEqual(len(told), 2)
        self.assertEqual(told[0], length, (net, one, other, k))
        way = told[1]
        self.assertIs(type(way), list)
        self.assertEqual(len(way), k)
        self.assertEqual(ends_of(net, way) if way else (one, one), (one, other))
        self.assertEqual(sum_of(net, way), length)

    def test_small_nets_by_a_slow_search(self):
        seen = {True: 0, False: 0}
        for net in itertools.islice(small_taut_nets(), 0, None, 2):
            for one in range(net[0]):
                best = {}
                for end, length, way in slow_ways(net, one, 6):
                    key = (end, len(way))
                    best[key] = min(length, best.get(key, length))
                for other, k in itertools.product(range(net[0]), range(7)):
                    self.check(net, one, other, k, best.get((other, k)))
                    seen[(other, k) in best] += 1
        self.assertGreater(min(seen.values()), 300)

    def test_bigger_nets_and_many_roads(self):
        for net in itertools.chain(itertools.islice(middling_taut_nets(), 0, None, 9), big_taut_nets()):
            for one, k in itertools.product(range(0, net[0], 6), (0, 1, 2, 19, 20, 59, 60)):
                best = ladder(net, one, k)
                for other in range(net[0]):
                    self.check(net, one, other, k, best.get(other))

    def test_no_roads(self):
        for count in (1, 2, 20):
            for one, other in itertools.product((0, count - 1), repeat=2):
                self.assertEqual(counted((count, [(0, 0, 3)]), one, other, 0), (0, []) if one == other else None)

    def test_one_road(self):
        self.assertEqual(counted(NET, 0, 1, 1), (1, [0]))
        self.assertEqual(counted(NET, 2, 2, 1), (2, [5]))
        self.assertIsNone(counted(NET, 0, 0, 1))
        self.assertIsNone(counted(NET, 0, 2, 1))
        self.assertIsNone(counted(NET, 3, 3, 1))
        self.assertEqual(counted((2, [(0, 1, 5), (0, 1, -5), (0, 1, 0)]), 0, 1, 1), (-5, [1]))

    def test_just_so_many(self):
        self.assertEqual(counted(NET, 0, 3, 2), None)
        self.assertEqual(counted(NET, 0, 3, 3), (-3, [0, 1, 6]))
        self.assertEqual(counted(NET, 0, 3, 4), (-1, [0, 1, 5, 6]))
        self.assertEqual(counted(NET, 0, 3, 5), (-2, [0, 1, 4, 1, 6]))
        self.assertEqual(counted(NET, 3, 3, 0), (0, []))

    def test_sixty_roads(self):
        self.assertEqual(counted((1, [(0, 0, FAR)]), 0, 0, 60), (60 * FAR, [0] * 60))
        self.assertEqual(counted((1, [(0, 0, 7), (0, 0, 0)]), 0, 0, 60), (0, [1] * 60))
        self.assertEqual(counted((2, [(0, 1, FAR), (1, 0, -FAR)]), 0, 0, 60), (0, [0, 1] * 30))
        self.assertEqual(counted((2, [(0, 1, FAR), (1, 0, -FAR)]), 1, 0, 59), (-FAR, [1, 0] * 29 + [1]))
        self.assertIsNone(counted((2, [(0, 1, FAR), (1, 0, -FAR)]), 0, 1, 60))
        self.assertIsNone(counted(chain(20, 1), 0, 19, 60))
        self.assertEqual(counted(chain(20, -FAR), 0, 19, 19), (-19 * FAR, list(range(19))))
        self.assertEqual(counted(whole_ring(0), 3, 3, 60)[0], 0)
        self.assertEqual(counted(braid(FAR), 0, 19, 60)[0], 19 * (FAR - 1))

    def test_no_count(self):
        for net in ((1, []), NET, braid(FAR)):
            for k in (-1, 61, 62, 200, 10 ** 29, -(10 ** 29)):
                for one, other in ((0, 0), (0, net[0] - 1)):
                    refused(self, NoCount, counted, net, one, other, k)

    def test_refusals_in_order(self):
        for net in BAD_NETS:
            for one, other, k in itertools.product((0, -1, 99), (0, -1, 99), (0, 1, -1, 61)):
                refused(self, NoNet, counted, net, one, other, k)
        for net in [(0, []), (1, []), NET] + NOT_TAUT:
            for place, k in itertools.product((-1, net[0], 10 ** 29, -(10 ** 29)), (0, 60, -1, 61)):
                for one, other in ((place, 0), (0, place), (place, place)):
                    refused(self, NoPlace, counted, net, one, other, k)
        for net in NOT_TAUT:
            for one, other in itertools.product(range(net[0]), repeat=2):
                for k in (-1, 61):
                    refused(self, NoCount, counted, net, one, other, k)
                for k in (0, 1, 60):
                    refused(self, NoTaut, counted, net, one, other, k)


def slow_through(rows, stops):
    steps = [rows[one][other] for one, other in zip(stops, stops[1:])]
    return None if None in steps else sum(steps)


def slow_best(rows, stops):
    """Try all orders with the ends where they are, those first in Python's order first."""
    best = None
    for order in sorted([stops[0], *middle, stops[-1]] for middle in itertools.permutations(stops[1:-1])):
        length = slow_through(rows, order)
        if length is not None and (best is None or length < best[0]):
            best = (length, order)
    return best


class Stops(unittest.TestCase):
    def check(self, net, rows, stops):
        """Check both questions, and that the length of the order told is what through tells of it."""
        length = slow_through(rows, stops)
        self.assertEqual(through(net, stops), length, (net, stops))
        best = slow_best(rows, stops) if len(stops) > 1 else (0, stops)
        told = best_order(net, stops)
        self.assertEqual(told, best, (net, stops))
        if told is not None:
            self.assertIs(type(told), tuple)
            self.assertIs(type(told[1]), list)
            self.assertEqual(through(net, told[1]), told[0])
            self.assertTrue(length is None or told[0] <= length)
        return told

    def test_small_nets(self):
        dice = random.Random(7)
        seen = {True: 0, False: 0}
        for net in small_taut_nets():
            if net[0] == 0:
                continue
            rows = plain_table(net)
            for many in range(1, 6):
                stops = [dice.randrange(net[0]) for turn in range(many)]
                seen[self.check(net, rows, stops) is None] += 1
        self.assertGreater(min(seen.values()), 300)

    def test_every_list_of_up_to_four_stops(self):
        for net in itertools.chain([NET], itertools.islice(small_taut_nets(), 1300, None, 40)):
            rows = plain_table(net)
            for many in range(1, 5):
                for stops in itertools.product(range(net[0]), repeat=many):
                    self.check(net, rows, list(stops))

    def test_bigger_nets_and_seven_stops(self):
        dice = random.Random(8)
        seen = {True: 0, False: 0}
        for net in itertools.chain(itertools.islice(middling_taut_nets(), 0, None, 4), big_taut_nets()):
            rows = plain_table(net)
            for many in (6, 7, 7):
                stops = [dice.randrange(net[0]) for turn in range(many)]
                seen[self.check(net, rows, stops) is None] += 1
            near = dice.randrange(net[0])
            joined = [place for place in range(net[0]) if rows[near][place] is not None]
            self.check(net, rows, sorted([dice.choice(joined) for turn in range(7)], reverse=True))
        self.assertGreater(min(seen.values()), 10)

    def test_a_slow_search_for_ways_by_stops(self):
        for net in itertools.islice(small_taut_nets(), 0, None, 5):
            if net[0] > 3:
                continue
            for one in range(net[0]):
                found = slow_ways(net, one, 2 * net[0] - 2)
                for between, other in itertools.product(range(net[0]), repeat=2):
                    lengths = [
                        length for end, length, way in found
                        if end == other and between in [one] + [net[1][number][1] for number in way]
                    ]
                    self.assertEqual(through(net, [one, between, other]), min(lengths, default=None))

    def test_one_stop(self):
        for net in ((1, []), (20, []), NET, whole_ring(0), braid(FAR)):
            for place in range(net[0]):
                stops = [place]
                self.assertEqual(through(net, stops), 0)
                told = best_order(net, stops)
                self.assertEqual(told, (0, [place]))
                self.assertIsNot(told[1], stops)

    def test_two_stops_stay_where_they_are(self):
        self.assertEqual(through(NET, [0, 2]), 2)
        self.assertEqual(best_order(NET, [0, 2]), (2, [0, 2]))
        self.assertEqual(best_order(NET, [2, 0]), (1, [2, 0]))
        self.assertIsNone(through(NET, [3, 0]))
        self.assertIsNone(best_order(NET, [3, 0]))
        stops = [0, 2]
        self.assertIsNot(best_order(NET, stops)[1], stops)

    def test_the_same_stop_several_times(self):
        self.assertEqual(through(NET, [2] * 7), 0)
        self.assertEqual(best_order(NET, [2] * 7), (0, [2] * 7))
        self.assertEqual(through(NET, [0, 1, 0, 1, 0, 1, 0]), 9)
        self.assertEqual(best_order(NET, [0, 1, 0, 1, 0, 1, 0]), (3, [0, 0, 0, 1, 1, 1, 0]))
        self.assertEqual(best_order(NET, [3, 3]), (0, [3, 3]))

    def test_the_first_of_the_orders_that_are_equally_long(self):
        net = (7, [(one, other, 1) for one in range(7) for other in range(7) if one != other])
        self.assertEqual(best_order(net, [6, 5, 4, 3, 2, 1, 0]), (6, [6, 1, 2, 3, 4, 5, 0]))
        self.assertEqual(best_order(net, [0, 5, 1, 5, 1, 5, 6]), (3, [0, 1, 1, 5, 5, 5, 6]))
        self.assertEqual(best_order(net, [3, 6, 3, 0, 3]), (3, [3, 0, 6, 3, 3]))
        # Heights make all ways between two places equally long, so every order is.
        ring = whole_ring(0)
        self.assertEqual(best_order(ring, [4, 19, 0, 11, 10, 2, 7])[1], [4, 0, 2, 10, 11, 19, 7])

    def test_the_least_is_ahead_of_the_first(self):
        net = (4, [(0, 1, 9), (0, 2, 1), (2, 1, 1), (1, 3, 1), (1, 2, 1), (2, 3, 1)])
        self.assertEqual(through(net, [0, 1, 2, 3]), 4)
        self.assertEqual(best_order(net, [0, 1, 2, 3]), (3, [0, 2, 1, 3]))
        self.assertEqual(best_order(net, [0, 2, 1, 3]), (3, [0, 2, 1, 3]))

    def test_only_some_orders_can_be_gone(self):
        row = chain(20, -FAR)
        stops = [0, 12, 9, 15, 3, 6, 19]
        self.assertIsNone(through(row, stops))
        self.assertEqual(best_order(row, stops), (-19 * FAR, [0, 3, 6, 9, 12, 15, 19]))
        self.assertIsNone(best_order(row, [19, 12, 0]))
        self.assertIsNone(best_order(row, [1, 0, 19]))
        self.assertIsNone(through((2, []), [0, 1]))
        self.assertIsNone(best_order((2, []), [0, 1, 0]))

    def test_far_lengths(self):
        net = (20, chain(20, FAR)[1] + [(19, 0, FAR)])
        self.assertEqual(through(net, [1, 0, 19, 18, 17, 16, 15]), 6 * 19 * FAR)
        self.assertEqual(best_order(net, [1, 0, 19, 18, 17, 16, 15]), (34 * FAR, [1, 16, 17, 18, 19, 0, 15]))


class StopsRefused(unittest.TestCase):
    def check(self, kind, net, stops):
        with self.subTest(net=net, stops=stops):
            kept = list(stops)
            refused(self, kind, through, net, stops)
            refused(self, kind, best_order, net, stops)
            self.assertEqual(stops, kept)

    def test_no_net_is_ahead_of_all_else(self):
        for net in BAD_NETS:
            for stops in ([], [0], [-1], [0] * 8, [99] * 8):
                self.check(NoNet, net, stops)

    def test_no_place_of_any_stop_is_ahead_of_no_count(self):
        for net in [(0, []), (1, []), (20, []), NET] + NOT_TAUT:
            for place in (-1, net[0], net[0] + 1, 10 ** 29, -(10 ** 29)):
                for many in (1, 2, 3, 7, 8, 20) if net[0] else ():
                    for at in range(many):
                        stops = [0] * many
                        stops[at] = place
                        self.check(NoPlace, net, stops)
                self.check(NoPlace, net, [place])
                self.check(NoPlace, net, [place] * 8)

    def test_no_count_is_ahead_of_no_taut(self):
        for net in [(1, []), (20, []), NET, braid(FAR)] + NOT_TAUT:
            for many in (0, 8, 9, 60):
                self.check(NoCount, net, [0] * many)
                self.check(NoCount, net, [net[0] - 1] * many)
        self.check(NoCount, (0, []), [])

    def test_no_taut_whatever_the_stops(self):
        for net in NOT_TAUT:
            for many in (1, 2, 7):
                self.check(NoTaut, net, [0] * many)
                self.check(NoTaut, net, [net[0] - 1] + [0] * (many - 1))


if __name__ == "__main__":
    unittest.main()
