"""Point 2: what is handed in stays, what is told is the asker's own, and answers come soon."""

import copy
import itertools
import time
import unittest

from tautroads.errors import RoadError
from tautroads.falls import fall
from tautroads.heights import heights, shows_heights, shows_ring
from tautroads.least import least, shows_least
from tautroads.nets import is_way, length_of
from tautroads.shut import by, detours, needed, tight, without
from tautroads.stops import best_order, counted, through
from tautroads.tables import table, table_with, window
from tests.helpers import (
    BAD_NETS, FAR, big_taut_nets, braid, lists_in, plain_table, small_nets, spoil, whole_ring,
)

WAYS = [[], [0], [1, 0], [-1], [0, 0, 0]]
PAPERS = [("way", [0], [0, 0, 0]), ("way", [], [0]), ("none", [0, 1]), ("none", [1, 0])]
NUMBERS = [-1, 0, 1, 40, 60]


def questions(net, one, other):
    """Every question there is about a net, as a function and what it is handed."""
    asked = [(heights, [net]), (least, [net, one, other])]
    for way in WAYS:
        asked.append((is_way, [net, one, other, way]))
        asked.append((length_of, [net, one, other, way]))
        asked.append((shows_heights, [net, way]))
        asked.append((shows_ring, [net, way]))
    for told in PAPERS:
        asked.append((shows_least, [net, one, other, told]))
    asked.append((table, [net]))
    for ask in (window, tight, needed, detours):
        asked.append((ask, [net, one, other]))
    for number in NUMBERS:
        asked.append((fall, [net, number]))
        for ask in (by, without, counted):
            asked.append((ask, [net, one, other, number]))
    for stops in ([one], [one, other], [one, other, one, other, 0, one, other], [], [one] * 8):
        asked.append((through, [net, stops]))
        asked.append((best_order, [net, stops]))
    return asked + table_questions(net, one, other)


def table_questions(net, one, other):
    """What is asked of a table is handed the table of a net that is one and is taut, not the net."""
    if net in BAD_NETS or heights(net)[0] == "ring":
        return []
    return [(table_with, [plain_table(net), (one, other, length)]) for length in (-FAR, -1, 0, 1, FAR, FAR + 1)]


def answer(ask, handed):
    """What is told, or the class of the refusal."""
    try:
        return ask(*handed)
    except RoadError as error:
        return type(error)


def some_nets():
    yield from itertools.islice(small_nets(), 0, None, 9)
    yield from BAD_NETS
    yield braid(FAR)
    yield whole_ring(0)
    yield whole_ring(-1)


class Ground(unittest.TestCase):
    def test_what_is_handed_in_is_not_changed(self):
        for net in some_nets():
            for one, other in ((0, 0), (0, 1), (1, 0), (-1, 2)):
                for ask, handed in questions(net, one, other):
                    kept = copy.deepcopy(handed)
                    answer(ask, handed)
                    self.assertEqual(handed, kept, ask)

    def test_the_same_question_is_told_the_same_again(self):
        for net in some_nets():
            for one, other in ((0, 0), (0, 1), (1, 0)):
                for ask, handed in questions(net, one, other):
                    self.assertEqual(answer(ask, handed), answer(ask, copy.deepcopy(handed)))

    def test_changing_what_was_told_changes_no_later_answer(self):
        for net in some_nets():
            for one, other in ((0, 0), (0, 1), (1, 0)):
                for ask, handed in questions(net, one, other):
                    kept = copy.deepcopy(handed)
                    first = answer(ask, handed)
                    same = copy.deepcopy(first)
                    spoil(first)
                    self.assertEqual(handed, kept)
                    self.assertEqual(answer(ask, handed), same)

    def test_changing_what_was_handed_in_changes_nothing_told(self):
        for net in some_nets():
            for one, other in ((0, 0), (0, 1), (1, 0)):
                for ask, handed in questions(copy.deepcopy(net), one, other):
                    mine = copy.deepcopy(handed)
                    first = answer(ask, mine)
                    same = copy.deepcopy(first)
                    spoil(tuple(mine))
                    self.assertEqual(first, same)

    def test_no_list_stands_at_two_places_of_what_is_told(self):
        for net in some_nets():
            for one, other in ((0, 0), (0, 1), (1, 0)):
                for ask, handed in questions(net, one, other):
                    told = lists_in(answer(ask, handed))
                    marks = {id(inner) for inner in told} | {id(inner) for inner in lists_in(tuple(handed))}
                    self.assertEqual(len(marks), len(told) + len({id(inner) for inner in lists_in(tuple(handed))}))

    def test_a_net_changed_between_is_looked_at_anew(self):
        roads = [(0, 1, 5)]
        net = (2, roads)
        self.assertEqual(heights(net), ("heights", [0, 0]))
        self.assertEqual(least(net, 0, 1)[1], [0])
        self.assertEqual(table(net), [[0, 5], [None, 0]])
        self.assertEqual(fall(net, 0), ("free", [1]))
        self.assertEqual(needed(net, 0, 1), [0])
        roads.append((0, 1, -5))
        self.assertEqual(heights(net), ("heights", [0, -5]))
        self.assertEqual(least(net, 0, 1)[1], [1])
        self.assertEqual(table(net), [[0, -5], [None, 0]])
        self.assertEqual(needed(net, 0, 1), [1])
        self.assertEqual(through(net, [0, 1]), -5)
        roads.append((1, 0, 5))
        self.assertEqual(fall(net, 0)[1], 10)
        self.assertEqual(counted(net, 0, 0, 2), (0, [1, 2]))
        roads[2] = (1, 0, 4)
        self.assertEqual(heights(net)[0], "ring")

    def test_answers_come_soon(self):
        start = time.perf_counter()
        for net in list(big_taut_nets()) + [whole_ring(-1)]:
            for one, other in ((0, 19), (19, 0), (7, 7)):
                for ask, handed in questions(net, one, other):
                    answer(ask, handed)
        self.assertLess(time.perf_counter() - start, 30)


if __name__ == "__main__":
    unittest.main()
