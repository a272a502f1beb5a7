"""Points 3 and 17: what is told of a book, twins, and books behind every row of deeds."""

import itertools
import random
import unittest

from tautroads.books import Book
from tautroads.errors import NoDeed, NoPlace, NoRoad, Ring
from tests.helpers import (
    FAR, NO_NAMES, PlainBook, big_taut_nets, book_anew, book_of, book_of_net, check_book, check_ring, deeds_in, name_of,
    page_of, refusal_of, refused, small_taut_nets,
)

# Two least ways from a to d; from d a ring of 0 by e; f is only come to from d; g stands alone.
PLACES = ["a", "b", "c", "d", "e", "f", "g"]
ROADS = [
    ("ab", "a", "b", 1), ("ac", "a", "c", 3), ("bd", "b", "d", 4), ("cd", "c", "d", 2), ("ad", "a", "d", 9),
    ("de", "d", "e", -2), ("ed", "e", "d", 2), ("df", "d", "f", 1), ("far", "d", "f", 8), ("ee", "e", "e", 0),
]
OF_NOTHING = ["places", "roads", "net", "heights"]
OF_PLACES = ["least", "window", "tight", "needed"]
OF_PLACES_AND_ROAD = ["by", "without"]
OF_ROAD = ["ends", "fall"]


def some_book():
    return book_of(PLACES, ROADS)


class Told(unittest.TestCase):
    def test_names_ends_and_net(self):
        book = book_of(["q", "b", "p"], [("z", "q", "b", -4), ("b", "p", "p", 7), ("m", "b", "q", 4)])
        self.assertEqual(book.places(), ["b", "p", "q"])
        self.assertEqual(book.roads(), ["b", "m", "z"])
        self.assertEqual(book.ends("z"), ("q", "b", -4))
        self.assertEqual(book.ends("b"), ("p", "p", 7))
        self.assertEqual(book.net(), (3, [(1, 1, 7), (0, 2, 4), (2, 0, -4)]))
        self.assertEqual(book.heights(), [("b", -4), ("p", 0), ("q", 0)])
        self.assertEqual(Book().net(), (0, []))
        self.assertEqual(Book().heights(), [])

    def test_least_ways(self):
        book = some_book()
        self.assertIn(book.least("a", "d"), [("way", ["ab", "bd"], 5), ("way", ["ac", "cd"], 5)])
        self.assertEqual(book.least("d", "f"), ("way", ["df"], 1))
        self.assertEqual(book.least("d", "a"), ("none", ["d", "e", "f"]))
        self.assertEqual(book.least("g", "a"), ("none", ["g"]))
        self.assertEqual(book.least("a", "g"), ("none", ["a", "b", "c", "d", "e", "f"]))
        self.assertEqual(book.least("g", "g"), ("way", [], 0))

    def test_windows_and_falls(self):
        book = some_book()
        self.assertEqual(book.window("d", "e"), (-2, -2))
        self.assertEqual(book.window("a", "d"), (None, 5))
        self.assertEqual(book.window("d", "a"), (-5, None))
        self.assertEqual(book.window("a", "g"), (None, None))
        self.assertEqual(book.window("g", "g"), (0, 0))
        self.assertEqual(book.fall("de"), 0)
        self.assertEqual(book.fall("ee"), 0)
        self.assertIsNone(book.fall("ab"))
        book.length("ee", FAR)
        self.assertEqual(book.fall("ee"), FAR)

    def test_by_and_without(self):
        book = some_book()
        self.assertEqual(book.by("a", "d", "ad"), 9)
        self.assertEqual(book.by("a", "d", "ee"), 5)
        self.assertEqual(book.by("e", "e", "de"), 0)
        self.assertIsNone(book.by("b", "d", "ab"))
        self.assertIsNone(book.by("g", "g", "ee"))
        self.assertEqual(book.without("a", "d", "ab"), 5)
        self.assertEqual(book.without("d", "f", "df"), 8)
        self.assertEqual(book.without("a", "a", "ab"), 0)
        self.assertIsNone(book.without("a", "b", "ab"))
        self.assertIsNone(book.without("g", "a", "ab"))

    def test_tight_and_needed(self):
        book = some_book()
        self.assertEqual(book.tight("a", "f"), ["ab", "ac", "bd", "cd", "de", "df", "ed", "ee"])
        self.assertEqual(book.needed("a", "f"), ["df"])
        self.assertEqual(book.needed("a", "e"), ["de"])
        self.assertEqual(book.tight("f", "a"), [])
        self.assertEqual(book.needed("f", "a"), [])
        self.assertEqual(book.tight("g", "g"), [])

    def test_books_of_small_nets(self):
        for net in itertools.islice(small_taut_nets(), 0, None, 7):
            book = book_of_net(net)
            self.assertEqual(book.net(), net)
            check_book(self, book, page_of(book))

    def test_books_at_the_bounds(self):
        for net in big_taut_nets():
            book = book_of_net(net)
            self.assertEqual(book.net(), net)
            check_book(self, book, page_of(book), 19)

    def test_kinds(self):
        book = some_book()
        for ask in ("places", "roads", "heights"):
            self.assertIs(type(getattr(book, ask)()), list)
        for ask in ("tight", "needed"):
            self.assertIs(type(getattr(book, ask)("a", "d")), list)
        for told in (book.net(), book.ends("ab"), book.window("a", "d"), book.heights()[0], book.least("a", "d")):
            self.assertIs(type(told), tuple)
        self.assertIs(type(book.net()[1]), list)
        self.assertIs(type(book.net()[1][0]), tuple)
        self.assertIs(type(book.least("g", "a")[1]), list)


class Refused(unittest.TestCase):
    NO_PLACES = ["h", "ab", "ee", "aa", *NO_NAMES]
    NO_ROADS = ["a", "e", "zz", *NO_NAMES]

    def test_no_place(self):
        book = some_book()
        for ask, name in itertools.product(OF_PLACES, self.NO_PLACES):
            for one, other in ((name, "a"), ("a", name), (name, name)):
                refused(self, NoPlace, getattr(book, ask), one, other)
                refused(self, NoPlace, getattr(Book(), ask), one, other)

    def test_no_place_is_ahead_of_no_road(self):
        book = some_book()
        for ask, name in itertools.product(OF_PLACES_AND_ROAD, self.NO_PLACES):
            for one, other, road in itertools.product(("a", name), ("d", name), ("ab", "zz", "")):
                if name in (one, other):
                    refused(self, NoPlace, getattr(book, ask), one, other, road)

    def test_no_road(self):
        book = some_book()
        for name in self.NO_ROADS:
            for ask in OF_ROAD:
                refused(self, NoRoad, getattr(book, ask), name)
                refused(self, NoRoad, getattr(Book(), ask), name)
            for ask, one, other in itertools.product(OF_PLACES_AND_ROAD, ("a", "g"), ("d", "g")):
                refused(self, NoRoad, getattr(book, ask), one, other, name)

    def test_a_refused_question_changes_nothing(self):
        book = some_book()
        book.back()
        kept = deeds_in(book)
        for ask in OF_PLACES:
            refusal_of(getattr(book, ask), "a", "h")
        for ask in OF_PLACES_AND_ROAD:
            refusal_of(getattr(book, ask), "a", "d", "zz")
        for ask in OF_ROAD:
            refusal_of(getattr(book, ask), "zz")
        self.assertEqual(deeds_in(book), kept)

    def test_what_went_or_was_taken_back_is_asked_in_vain(self):
        book = some_book()
        book.away("a")
        for ask in OF_PLACES:
            refused(self, NoPlace, getattr(book, ask), "a", "d")
        refused(self, NoRoad, book.ends, "ab")
        book.back()
        self.assertEqual(book.ends("ab"), ("a", "b", 1))
        book.back()
        refused(self, NoRoad, book.fall, "ee")


class Twin(unittest.TestCase):
    def made(self):
        """A book with deeds to take back and to do again."""
        book = some_book()
        book.length("ad", 7)
        book.away("c")
        book.back()
        book.back()
        return book

    def test_it_is_alike_with_its_deeds(self):
        for book in (Book(), some_book(), self.made()):
            kept = deeds_in(book)
            other = book.twin()
            self.assertIs(type(other), Book)
            self.assertIsNot(other, book)
            self.assertEqual(deeds_in(other), kept)
            self.assertEqual(deeds_in(book), kept)
            check_book(self, other, kept[1])
        self.assertEqual(len(deeds_in(other)[2]), 2)

    def test_making_one_is_no_deed(self):
        book = Book()
        book.twin()
        refused(self, NoDeed, book.back)
        refused(self, NoDeed, book.twin().back)
        book = self.made()
        book.twin()
        self.assertIsNone(book.again())

    def test_what_is_done_in_one_changes_nothing_in_the_other(self):
        deeds = [
            ("place", "new"), ("road", "new", "a", "g", 1), ("away", "d"), ("out", "ab"), ("length", "ab", 0), ("turn", "ad"),
            ("pour", book_of(["new"], [("new", "new", "new", 0)])), ("back",), ("again",), ("place", "A"),
        ]
        for (deed, *told), about in itertools.product(deeds, (False, True)):
            book = self.made()
            other = book.twin()
            if about:
                book, other = other, book
            kept = deeds_in(other)
            refusal_of(getattr(book, deed), *told)
            self.assertEqual(deeds_in(other), kept, deed)
            for turn in range(3):
                book.back()
            book.place("newer")
            self.assertEqual(deeds_in(other), kept, deed)
            check_book(self, other, kept[1])

    def test_a_twin_of_a_twin_and_the_book_it_came_of_taken_back(self):
        book = some_book()
        first = book.twin()
        second = first.twin()
        for turn in range(len(PLACES) + len(ROADS)):
            book.back()
            first.back()
        self.assertEqual(first.places(), [])
        self.assertEqual(second.roads(), sorted(road[0] for road in ROADS))
        second.pour(book)
        self.assertEqual(book.places(), [])

    def test_a_twin_poured_into_its_book(self):
        book = book_of(PLACES, [])
        other = book.twin()
        other.road("ab", "a", "b", 1)
        self.assertIsNone(book.pour(other))
        self.assertEqual(page_of(book), (PLACES, {"ab": ("a", "b", 1)}))


class Rows(unittest.TestCase):
    """Rows of deeds by chance, the same ones in each run, in several books and plain ones beside them."""

    PLACE_NAMES = ["a", "b", "p", "abcdefgh"]
    ROAD_NAMES = ["a", "p", "q", "r", "s", "t", "u"]

    def chance_deed(self, dice, many):
        """A deed and what it is told; a book is told by its number."""
        def place():
            return dice.choice(self.PLACE_NAMES) if dice.random() < 0.95 else dice.choice(NO_NAMES)

        def road():
            return dice.choice(self.ROAD_NAMES) if dice.random() < 0.95 else dice.choice(NO_NAMES)

        def length():
            return dice.randint(-3, 6) if dice.random() < 0.9 else dice.choice([FAR, -FAR, FAR + 1, -FAR - 1])

        new_road = ("road", road(), place(), place(), length())
        deeds = [("place", place()), new_road, ("length", road(), length()), ("turn", road()), ("out", road())]
        deeds += [("away", place()), ("pour", dice.randrange(many)), ("back",), ("again",)]
        return dice.choices(deeds, weights=[4, 12, 4, 4, 1, 1, 3, 3, 2])[0]

    def do_one(self, books, plain, at, deed, told, seen):
        mine, other = list(told), list(told)
        if deed == "pour":
            mine, other = [books[told[0]]], [plain[told[0]]]
        error = refusal_of(getattr(books[at], deed), *mine)
        kind = plain[at].do(deed, *other)
        self.assertEqual(None if error is None else type(error), kind, (deed, told, plain[at].page()))
        if kind is Ring:
            check_ring(self, error.ring, plain[at].would[1])
        seen.setdefault((deed, kind), 0)
        seen[deed, kind] += 1

    def check_deeds(self, book, plain):
        behind, here, ahead = deeds_in(book)
        self.assertEqual(behind[::-1] + [here] + ahead, plain.pages)
        self.assertEqual(len(behind), plain.at)

    def test_books_answer_as_ones_made_anew(self):
        dice = random.Random(16)
        seen = {}
        for row in range(240):
            books, plain = [Book(), Book(), Book()], [PlainBook(), PlainBook(), PlainBook()]
            for at, name in itertools.product(range(3), self.PLACE_NAMES[:3]):
                self.do_one(books, plain, at, "place", [name], seen)
            for turn in range(80):
                at = dice.randrange(3)
                if dice.random() < 0.03:
                    to = dice.randrange(3)
                    books[to], plain[to] = books[at].twin(), plain[at].twin()
                deed, *told = self.chance_deed(dice, 3)
                self.do_one(books, plain, at, deed, told, seen)
                for book, other in zip(books, plain):
                    self.assertEqual(page_of(book), other.page())
                if turn % 6 == 0:
                    check_book(self, books[at], plain[at].page())
            for book, other in zip(books, plain):
                self.check_deeds(book, other)
                check_book(self, book, other.page())
                self.same_as_anew(book)
        for key in [("road", Ring), ("length", Ring), ("turn", Ring), ("pour", Ring), ("turn", None), ("pour", None)]:
            self.assertGreater(seen[key], 5, key)

    def same_as_anew(self, book):
        """Also what is free, the ways and the rings, hangs only on what stands in the book."""
        anew = book_anew(page_of(book))
        for one, other in itertools.product(book.places(), repeat=2):
            self.assertEqual(book.least(one, other), anew.least(one, other))
            for length in (-2, -FAR):
                self.assertEqual(self.ring_of(book, one, other, length), self.ring_of(anew, one, other, length))

    def ring_of(self, book, one, other, length):
        error = refusal_of(book.twin().road, "new", one, other, length)
        return None if error is None else error.ring

    def test_rows_at_the_bounds(self):
        dice = random.Random(1000)
        for net in list(big_taut_nets())[3::3]:
            book, plain = Book(), PlainBook()
            for number in range(net[0]):
                book.place(name_of(number))
                plain.do("place", name_of(number))
            for number, (one, other, length) in enumerate(net[1]):
                book.road(name_of(number), name_of(one), name_of(other), length)
                plain.do("road", name_of(number), name_of(one), name_of(other), length)
            for turn in range(60):
                deed, *told = self.big_deed(dice)
                self.do_one([book], [plain], 0, deed, told, {})
                self.assertEqual(page_of(book), plain.page())
            self.check_deeds(book, plain)
            check_book(self, book, plain.page(), 7)

    def big_deed(self, dice):
        place, road = name_of(dice.randrange(22)), name_of(dice.randrange(62))
        length = dice.choice([FAR, -FAR, 0, dice.randint(-FAR, FAR)])
        return dice.choice([
            ("place", place), ("road", road, place, name_of(dice.randrange(20)), length), ("length", road, length),
            ("turn", road), ("out", road), ("away", place), ("back",), ("again",),
        ])


if __name__ == "__main__":
    unittest.main()
