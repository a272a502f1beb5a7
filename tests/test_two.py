"""Point 18: the unlike pairs of two books, and the clash of pouring one into the other."""

import itertools
import random
import unittest

from tautroads.books import Book
from tautroads.errors import Full, Ring, Twice
from tautroads.two import clash, unlike
from tests.helpers import (
    FAR, big_taut_nets, book_of, book_of_net, chance_taut_net, check_ring, deeds_in, name_of, net_of_page, page_of,
    plain_table, plain_taut, refusal_of,
)


def plain_unlike(one, other):
    """The unlike pairs of two pages, by plain tables."""
    rows, others = plain_table(net_of_page(one)), plain_table(net_of_page(other))
    both = sorted(set(one[0]) & set(other[0]))
    told = []
    for start, end in itertools.product(both, repeat=2):
        here = rows[sorted(one[0]).index(start)][sorted(one[0]).index(end)]
        there = others[sorted(other[0]).index(start)][sorted(other[0]).index(end)]
        if here != there:
            told.append((start, end, here, there))
    return told


def chance_book(dice, road_names):
    """A book of up to five of six places, so that two books have some of the same."""
    count = dice.choice([0, 1, 2, 3, 4, 5, 5])
    net = chance_taut_net(dice, count, dice.randint(2, 8), 5, dice.randint(0, 3)) if count else (0, [])
    places = dice.sample("abcdef", count)
    names = dice.sample(road_names, len(net[1]))
    return book_of(places, [(name, places[one], places[other], length) for name, (one, other, length) in zip(names, net[1])])


def chance_pairs():
    dice = random.Random(18)
    for turn in range(1200):
        # Names that can't be the same let pouring come to the ring.
        yield chance_book(dice, "abcdefgh"), chance_book(dice, "pqrstuvw" if turn % 4 else "abcdpqrs")


class Unlike(unittest.TestCase):
    def test_plain_pairs(self):
        one = book_of(["c", "a", "b", "x"], [("p", "a", "b", 5), ("q", "b", "c", 1), ("r", "x", "a", 0), ("s", "c", "x", 9)])
        other = book_of(["b", "c", "a", "y"], [("s", "a", "b", 4), ("t", "c", "b", -4), ("p", "b", "c", 7), ("r", "c", "y", 1)])
        self.assertEqual(unlike(one, other), [
            ("a", "b", 5, 4), ("a", "c", 6, 11), ("b", "a", 10, None), ("b", "c", 1, 7), ("c", "a", 9, None), ("c", "b", 14, -4),
        ])
        self.assertEqual(unlike(other, one), [
            ("a", "b", 4, 5), ("a", "c", 11, 6), ("b", "a", None, 10), ("b", "c", 7, 1), ("c", "a", None, 9), ("c", "b", -4, 14),
        ])

    def test_pairs_that_only_the_names_of_roads_part(self):
        one = book_of(["a", "b"], [("p", "a", "b", 5)])
        other = book_of(["a", "b"], [("q", "a", "b", 5), ("r", "a", "b", 8)])
        self.assertEqual(unlike(one, other), [])
        other.out("q")
        self.assertEqual(unlike(one, other), [("a", "b", 5, 8)])

    def test_none_against_0(self):
        one = book_of(["a", "b"], [("p", "a", "b", 0)])
        other = book_of(["b", "a"], [])
        self.assertEqual(unlike(one, other), [("a", "b", 0, None)])
        self.assertEqual(unlike(other, one), [("a", "b", None, 0)])

    def test_no_places_of_both(self):
        self.assertEqual(unlike(Book(), Book()), [])
        self.assertEqual(unlike(Book(), book_of(["a"], [])), [])
        self.assertEqual(unlike(book_of(["a"], [("p", "a", "a", 1)]), book_of(["b"], [])), [])

    def test_a_book_and_itself_or_its_twin(self):
        book = book_of(["a", "b", "c"], [("p", "a", "b", 5), ("q", "b", "a", -5)])
        other = book.twin()
        self.assertEqual(unlike(book, book), [])
        self.assertEqual(unlike(book, other), [])
        self.assertEqual(unlike(other, book), [])
        other.road("r", "b", "c", 2)
        self.assertEqual(unlike(book, other), [("a", "c", None, 7), ("b", "c", None, 2)])
        self.assertEqual(unlike(other, book), [("a", "c", 7, None), ("b", "c", 2, None)])
        other.back()
        self.assertEqual(unlike(other, book), [])

    def test_books_by_chance(self):
        many = 0
        for one, other in chance_pairs():
            kept = deeds_in(one), deeds_in(other)
            told = unlike(one, other)
            self.assertEqual(told, plain_unlike(page_of(one), page_of(other)))
            self.assertEqual(unlike(one, other), told)
            self.assertEqual(unlike(other, one), [(start, end, there, here) for start, end, here, there in told])
            self.assertEqual((deeds_in(one), deeds_in(other)), kept)
            many += len(told) > 1
        self.assertGreater(many, 100)

    def test_at_the_bounds(self):
        books = [book_of_net(net) for net in big_taut_nets()]
        for one, other in zip(books, books[1:]):
            self.assertEqual(unlike(one, other), plain_unlike(page_of(one), page_of(other)))

    def test_kinds(self):
        told = unlike(book_of(["a", "b"], [("p", "a", "b", 0)]), book_of(["b", "a"], []))
        self.assertIs(type(told), list)
        self.assertIs(type(told[0]), tuple)


class Clash(unittest.TestCase):
    def check(self, one, other):
        """Check what is told against pouring; tell the class of its refusal."""
        kept = deeds_in(one), deeds_in(other)
        told = clash(one, other)
        self.assertEqual((deeds_in(one), deeds_in(other)), kept)
        self.assertEqual(clash(one, other), told)
        error = refusal_of(one.twin().pour, other)
        if type(error) is Ring:
            check_ring(self, told, {**page_of(one)[1], **page_of(other)[1]})
        else:
            self.assertIsNone(told)
        return None if error is None else type(error)

    def test_a_ring_of_both(self):
        one = book_of(["a", "b", "c"], [("p", "a", "b", 1), ("q", "b", "c", 1)])
        other = book_of(["a", "c", "z"], [("r", "c", "z", 0), ("s", "z", "a", -3)])
        self.assertIs(self.check(one, other), Ring)
        self.assertIs(self.check(other, one), Ring)
        self.assertEqual(sorted(clash(one, other)), ["p", "q", "r", "s"])
        other.length("s", -2)
        self.assertIsNone(self.check(one, other))
        self.assertIsNone(self.check(other, one))

    def test_refused_ahead_of_the_ring(self):
        one = book_of(["a", "b"], [("p", "a", "b", 1)])
        other = book_of(["a", "b"], [("q", "b", "a", -2), ("p", "a", "b", 2)])
        self.assertIs(self.check(one, other), Twice)
        other.out("p")
        self.assertIs(self.check(one, other), Ring)
        one.place("y")
        for number in range(18):
            other.place("x" + name_of(number))
        self.assertIs(self.check(one, other), Full)
        self.assertIs(self.check(other, one), Full)
        one.away("y")
        self.assertIs(self.check(one, other), Ring)
        for number in range(59):
            one.road("x" + name_of(number), "a", "b", FAR)
        self.assertIs(self.check(one, other), Full)
        one.out("xaa")
        self.assertIs(self.check(one, other), Ring)

    def test_a_book_and_itself_or_its_twin(self):
        book = book_of(["a", "b"], [])
        self.assertIsNone(self.check(book, book))
        self.assertIsNone(self.check(Book(), Book()))
        book.road("p", "a", "b", 1)
        self.assertIs(self.check(book, book), Twice)
        other = book.twin()
        self.assertIs(self.check(book, other), Twice)
        other.out("p")
        other.road("q", "b", "a", -2)
        self.assertIs(self.check(book, other), Ring)
        self.assertEqual(sorted(clash(book, other)), ["p", "q"])

    def test_books_by_chance(self):
        seen = {None: 0, Ring: 0, Twice: 0}
        for one, other in chance_pairs():
            kind = self.check(one, other)
            seen[kind] += 1
            # The refusals themselves are looked at plainly, too.
            roads = {**page_of(one)[1], **page_of(other)[1]}
            twice = len(roads) < len(one.roads()) + len(other.roads())
            taut = plain_taut(net_of_page((sorted(set(one.places()) | set(other.places())), roads)))
            self.assertIs(kind, Twice if twice else None if taut else Ring)
        self.assertGreater(min(seen.values()), 50)

    def test_what_is_told_is_the_askers_own(self):
        one = book_of(["a", "b"], [("p", "a", "b", 1)])
        other = book_of(["a", "b"], [("q", "b", "a", -2)])
        told = clash(one, other)
        told.clear()
        self.assertEqual(sorted(clash(one, other)), ["p", "q"])
        self.assertIsNot(clash(one, other), clash(one, other))


if __name__ == "__main__":
    unittest.main()
