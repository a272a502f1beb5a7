"""Points 9 and 10: tables, a road more in a table, and windows."""

import copy
import itertools
import random
import unittest

from tautroads.errors import NoNet, NoPlace, NoRoad, NoTaut
from tautroads.heights import heights
from tautroads.least import least
from tautroads.tables import table, table_with, window
from tests.helpers import (
    BAD_NETS, FAR, NOT_TAUT, big_taut_nets, braid, broken_roads, chain, middling_taut_nets, one_shorter, plain_table,
    plain_taut, refused, slow_least, slow_taut, small_nets, small_taut_nets, sum_of, whole_ring,
)

# 3 and 4 lie apart; from 2 nothing leads; a road from a place to itself, and several alike.
NET = (5, [(0, 1, 4), (0, 1, 4), (1, 0, -3), (1, 2, -7), (0, 2, 1), (1, 1, 0), (2, 2, 9), (3, 4, 0), (4, 3, 0)])
ROWS = [
    [0, 4, -3, None, None],
    [-3, 0, -7, None, None],
    [None, None, 0, None, None],
    [None, None, None, 0, 0],
    [None, None, None, 0, 0],
]

NO_ROADS = [
    (-1, 0, 0), (0, -1, 0), (5, 0, 0), (0, 5, 0), (-5, 0, 0), (0, -5, 0), (10 ** 29, 0, 0), (0, -(10 ** 29), 0),
    (0, 1, FAR + 1), (0, 1, -FAR - 1), (0, 0, -FAR - 1), (0, 1, 10 ** 29), (5, 5, -1), (-1, -1, -1), (1, 0, -FAR - 1),
]


def with_road(net, road):
    return (net[0], net[1] + [road])


class Table(unittest.TestCase):
    def check(self, net, rows):
        told = table(net)
        self.assertEqual(told, rows, net)
        self.assertIs(type(told), list)
        for row in told:
            self.assertIs(type(row), list)
        self.assertEqual(len({id(row) for row in told}), net[0])

    def test_plain_nets(self):
        self.check((0, []), [])
        self.check((1, []), [[0]])
        self.check((1, [(0, 0, 0), (0, 0, 5)]), [[0]])
        self.check((2, [(0, 1, FAR)]), [[0, FAR], [None, 0]])
        self.check((2, [(0, 1, 3), (0, 1, 2), (0, 1, 2)]), [[0, 2], [None, 0]])
        self.check(NET, ROWS)

    def test_nets_without_roads(self):
        for count in range(21):
            self.check((count, []), [[0 if one == other else None for other in range(count)] for one in range(count)])

    def test_a_ring_of_just_0(self):
        net = (3, [(0, 1, 4), (1, 2, -9), (2, 0, 5)])
        self.check(net, [[0, 4, -5], [-4, 0, -9], [5, 9, 0]])
        for number in range(3):
            refused(self, NoTaut, table, one_shorter(net, number))

    def test_small_nets_by_a_slow_search(self):
        seen = [0, 0]
        for net in small_nets():
            taut = slow_taut(net)
            seen[taut] += 1
            if taut:
                best = [slow_least(net, one) for one in range(net[0])]
                self.check(net, [[row.get(other) for other in range(net[0])] for row in best])
                self.assertEqual(plain_table(net), table(net))
            else:
                refused(self, NoTaut, table, net)
        self.assertGreater(min(seen), 300)

    def test_up_to_twenty_places(self):
        for net in itertools.chain(middling_taut_nets(), big_taut_nets()):
            self.check(net, plain_table(net))

    def test_far_lengths(self):
        self.check(chain(20, FAR), [[(b - a) * FAR if a <= b else None for b in range(20)] for a in range(20)])
        self.check(chain(20, -FAR), [[(a - b) * FAR if a <= b else None for b in range(20)] for a in range(20)])
        self.assertEqual(table(braid(-FAR + 1))[0][19], -19 * FAR)

    def test_the_lengths_are_those_of_least_ways(self):
        for net in itertools.islice(small_taut_nets(), 0, None, 5):
            rows = table(net)
            for one, other in itertools.product(range(net[0]), repeat=2):
                told = least(net, one, other)
                self.assertEqual(rows[one][other], sum_of(net, told[1]) if told[0] == "way" else None)

    def test_refusals(self):
        for net in BAD_NETS:
            refused(self, NoNet, table, net)
        for net in NOT_TAUT:
            refused(self, NoTaut, table, net)


class TableWith(unittest.TestCase):
    def check(self, net, road):
        """Check a road more against the net that has it, and tell whether that net is taut."""
        rows = table(net)
        kept = copy.deepcopy(rows)
        fuller = with_road(net, road)
        taut = plain_taut(fuller)
        if taut:
            told = table_with(rows, road)
            self.assertEqual(told, plain_table(fuller), (net, road))
            marks = {id(inner) for inner in rows} | {id(rows)} | {id(inner) for inner in told} | {id(told)}
            self.assertEqual(len(marks), 2 * net[0] + 2)
        else:
            refused(self, NoTaut, table_with, rows, road)
        self.assertEqual(rows, kept)
        return taut

    def test_about_the_least_way_and_the_ring_back(self):
        for net in itertools.chain(itertools.islice(small_taut_nets(), 0, None, 7), [NET]):
            rows = table(net)
            for start, end in itertools.product(range(net[0]), repeat=2):
                lengths = [-2, 0, 3, FAR]
                if rows[start][end] is not None:
                    lengths += [rows[start][end] - 1, rows[start][end], rows[start][end] + 1]
                for length in lengths:
                    self.check(net, (start, end, length))
                if rows[end][start] is None:
                    self.assertTrue(self.check(net, (start, end, -FAR)))
                else:
                    self.assertTrue(self.check(net, (start, end, -rows[end][start])))
                    self.assertFalse(self.check(net, (start, end, -rows[end][start] - 1)))

    def test_plain_roads(self):
        rows = [[0, 5, None], [None, 0, None], [None, None, 0]]
        self.assertEqual(table_with(rows, (0, 1, 5)), rows)
        self.assertEqual(table_with(rows, (0, 1, 6)), rows)
        self.assertEqual(table_with(rows, (0, 1, 4)), [[0, 4, None], [None, 0, None], [None, None, 0]])
        self.assertEqual(table_with(rows, (1, 2, -8)), [[0, 5, -3], [None, 0, -8], [None, None, 0]])
        self.assertEqual(table_with(rows, (1, 0, -5)), [[0, 5, None], [-5, 0, None], [None, None, 0]])
        refused(self, NoTaut, table_with, rows, (1, 0, -6))

    def test_from_a_place_to_itself(self):
        for net in (NET, (1, []), (20, []), whole_ring(0)):
            for place in range(net[0]):
                rows = table(net)
                for length in (0, 1, FAR):
                    self.assertEqual(table_with(rows, (place, place, length)), rows)
                for length in (-1, -FAR):
                    refused(self, NoTaut, table_with, rows, (place, place, length))
                self.assertEqual(rows, table(net))

    def test_what_is_no_road_is_refused_first(self):
        rows = copy.deepcopy(ROWS)
        for road in NO_ROADS:
            with self.subTest(road=road):
                refused(self, NoRoad, table_with, rows, road)
                self.assertEqual(rows, ROWS)
        for count in (0, 1, 19, 20):
            rows = table((count, []))
            for road in ((count, 0, 0), (0, count, 0), (0, -1, 0), (-1, 0, -1), (count, count, -1), (-1, -1, -1)):
                refused(self, NoRoad, table_with, rows, road)
            self.assertEqual(rows, table((count, [])))

    def test_lengths_at_the_bounds(self):
        for count in (1, 2, 20):
            rows = table((count, []))
            refused(self, NoTaut, table_with, rows, (count - 1, count - 1, -FAR))
            self.assertEqual(table_with(rows, (count - 1, count - 1, FAR)), rows)
        self.assertEqual(table_with([[0, None], [None, 0]], (0, 1, -FAR)), [[0, -FAR], [None, 0]])
        self.assertEqual(table_with([[0, None], [None, 0]], (1, 0, FAR)), [[0, None], [FAR, 0]])

    def test_road_by_road_to_a_whole_net(self):
        for net in itertools.chain(big_taut_nets(), itertools.islice(middling_taut_nets(), 0, None, 7)):
            rows = table((net[0], []))
            for road in net[1]:
                rows = table_with(rows, road)
            self.assertEqual(rows, plain_table(net))

    def test_big_nets_and_any_road(self):
        dice = random.Random(5)
        seen = [0, 0]
        for net in big_taut_nets():
            rows = table(net)
            for turn in range(12):
                start, end = dice.randrange(20), dice.randrange(20)
                least_back = rows[end][start] or 0
                for length in (-FAR, FAR, -least_back, -least_back - 1, -least_back + dice.randint(0, 10 ** 8)):
                    if abs(length) <= FAR:
                        seen[self.check(net, (start, end, length))] += 1
        self.assertGreater(min(seen), 100)

    def test_the_table_told_is_no_part_of_the_one_handed_in(self):
        rows = copy.deepcopy(ROWS)
        told = table_with(rows, (0, 1, 9))
        self.assertEqual(told, ROWS)
        for row in rows:
            row.clear()
        rows.clear()
        self.assertEqual(told, ROWS)


class Window(unittest.TestCase):
    def test_plain_windows(self):
        net = (4, [(0, 1, 5), (1, 0, -2), (1, 2, -4)])
        self.assertEqual(window(net, 0, 1), (2, 5))
        self.assertEqual(window(net, 1, 0), (-5, -2))
        self.assertEqual(window(net, 0, 2), (None, 1))
        self.assertEqual(window(net, 2, 0), (-1, None))
        self.assertEqual(window(net, 0, 3), (None, None))
        self.assertEqual(window(net, 3, 3), (0, 0))
        self.assertEqual(window((1, [(0, 0, 7)]), 0, 0), (0, 0))
        self.assertEqual(window((2, [(0, 1, 3), (1, 0, -3)]), 0, 1), (3, 3))
        self.assertEqual(window((2, [(0, 1, FAR)]), 0, 1), (None, FAR))
        self.assertEqual(window((2, [(1, 0, -FAR), (0, 1, FAR)]), 0, 1), (FAR, FAR))
        self.assertEqual(window((2, [(1, 0, 0)]), 0, 1), (0, None))

    def test_each_two_places(self):
        seen = {}
        nets = itertools.chain(small_taut_nets(), itertools.islice(middling_taut_nets(), 0, None, 9), big_taut_nets())
        for net in nets:
            rows = plain_table(net)
            told_heights = heights(net)[1]
            for one, other in itertools.product(range(net[0]), repeat=2):
                told = window(net, one, other)
                back = rows[other][one]
                self.assertEqual(told, (None if back is None else -back, rows[one][other]), (net, one, other))
                self.assertIs(type(told), tuple)
                self.assertTrue(told[0] is None or told[0] <= told_heights[other] - told_heights[one])
                self.assertTrue(told[1] is None or told[1] >= told_heights[other] - told_heights[one])
                seen[(told[0] is None, told[1] is None, one == other)] = True
        self.assertEqual(len(seen), 5)

    def test_the_bounds_are_those_of_all_heights(self):
        levels = range(-4, 5)
        for net in itertools.islice(small_taut_nets(), 0, None, 3):
            if net[0] != 3 or any(abs(length) > 2 for start, end, length in net[1]):
                continue
            shown = [told for told in itertools.product(levels, repeat=3) if not broken_roads(net, told)]
            for one, other in itertools.product(range(3), repeat=2):
                # A bound of these small nets is within 4; one that goes further is that of the levels tried.
                rises = [told[other] - told[one] for told in shown]
                low = None if min(rises) < -4 else min(rises)
                high = None if max(rises) > 4 else max(rises)
                self.assertEqual(window(net, one, other), (low, high), (net, one, other))

    def test_heights_lie_within_it_and_reach_both_ends(self):
        for net in itertools.chain(itertools.islice(small_taut_nets(), 0, None, 11), [NET]):
            for one, other in itertools.product(range(net[0]), repeat=2):
                low, high = window(net, one, other)
                there, back = least(net, one, other), least(net, other, one)
                if there[0] == "way":
                    self.assertEqual(there[2][other] - there[2][one], high)
                else:
                    self.assertIsNone(high)
                if back[0] == "way":
                    self.assertEqual(back[2][other] - back[2][one], low)
                else:
                    self.assertIsNone(low)

    def test_refusals_in_order(self):
        for net in BAD_NETS:
            for one, other in ((0, 0), (0, 1), (-1, 0), (0, 99)):
                refused(self, NoNet, window, net, one, other)
        for net in [(0, []), (1, []), (20, [])] + NOT_TAUT:
            for place in (-1, net[0], net[0] + 1, 10 ** 29, -(10 ** 29)):
                for one, other in ((place, 0), (0, place), (place, place)):
                    refused(self, NoPlace, window, net, one, other)
        for net in NOT_TAUT:
            for one, other in itertools.product(range(net[0]), repeat=2):
                refused(self, NoTaut, window, net, one, other)


if __name__ == "__main__":
    unittest.main()
