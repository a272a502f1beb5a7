"""Points 2 and 3 of books: what is told is the asker's own, nothing is shared, and answers come soon."""

import copy
import itertools
import time
import unittest

from tautroads.books import Book
from tautroads.errors import Ring, RoadError
from tautroads.texts import read_book, read_road, show_book
from tautroads.two import clash, unlike
from tests.helpers import FAR, big_taut_nets, book_of, book_of_net, deeds_in, lists_in, name_of, page_of, spoil


def made():
    """A book with deeds to take back and to do again; from a to b and back comes to just 0."""
    book = book_of(["a", "b", "c", "d"], [("p", "a", "b", 5), ("q", "b", "a", -5), ("r", "b", "c", 2), ("s", "c", "c", 0)])
    book.length("r", 3)
    book.back()
    return book


def questions(book):
    """Every question there is about a book, as a function and what it is handed; some of them are refused."""
    other = book_of(["a", "b", "z"], [("new", "b", "a", -6)])
    asked = [(book.places, []), (book.roads, []), (book.net, []), (book.heights, [])]
    for name in ("p", "s", "zz"):
        asked += [(book.ends, [name]), (book.fall, [name])]
    for one, other_place in itertools.product(("a", "c", "d", "zz"), repeat=2):
        asked += [(ask, [one, other_place]) for ask in (book.least, book.window, book.tight, book.needed)]
        asked += [(ask, [one, other_place, name]) for ask in (book.by, book.without) for name in ("p", "zz")]
    asked += [(unlike, [book, other]), (unlike, [other, book]), (clash, [book, other]), (clash, [other, book])]
    return asked + [(clash, [book, book]), (show_book, [book]), (read_road, ["x: a > b 1"])]


def refused_deeds(book):
    """Deeds that are refused with a ring."""
    return [
        (book.road, ["new", "b", "a", -6]), (book.length, ["p", 4]), (book.length, ["s", -1]),
        (book.pour, [book_of(["a", "b"], [("new", "b", "a", -6)])]),
    ]


def answer(ask, handed):
    """What is told, or the class of the refusal and its ring."""
    try:
        return ask(*handed)
    except RoadError as error:
        return (type(error), getattr(error, "ring", None))


class Told(unittest.TestCase):
    def test_the_same_asked_again_is_told_the_same(self):
        book, alike = made(), made()
        first = [copy.deepcopy(answer(ask, handed)) for ask, handed in questions(book) + refused_deeds(book)]
        for same in (book, alike, book.twin()):
            again = [answer(ask, handed) for ask, handed in questions(same) + refused_deeds(same)]
            self.assertEqual(again, first)

    def test_changing_what_was_told_changes_no_later_answer(self):
        book = made()
        kept = deeds_in(book)
        for ask, handed in questions(book) + refused_deeds(book):
            first = answer(ask, handed)
            same = copy.deepcopy(first)
            spoil(first)
            self.assertEqual(answer(ask, handed), same, ask)
        self.assertEqual(deeds_in(book), kept)

    def test_no_list_stands_at_two_places(self):
        book = made()
        for ask, handed in questions(book) + refused_deeds(book):
            one, other = answer(ask, handed), answer(ask, handed)
            found = lists_in((one, other))
            self.assertEqual(len({id(inner) for inner in found}), len(found), ask)

    def test_nothing_done_later_changes_what_was_told(self):
        book = made()
        told = [(answer(ask, handed), ask) for ask, handed in questions(book) + refused_deeds(book)]
        same = copy.deepcopy([first for first, ask in told])
        book.again()
        book.place("e")
        book.road("new", "e", "a", FAR)
        book.turn("r")
        book.pour(book_of(["z"], [("z", "z", "z", 1)]))
        book.away("b")
        book.back()
        self.assertEqual([first for first, ask in told], same)

    def test_asking_is_no_deed(self):
        book = made()
        kept = deeds_in(book)
        for ask, handed in questions(book) + refused_deeds(book):
            answer(ask, handed)
            self.assertEqual(deeds_in(book), kept, ask)

    def test_each_refusal_has_a_ring_of_its_own(self):
        book = made()
        errors = []
        for turn in range(2):
            with self.assertRaises(Ring) as caught:
                book.road("new", "b", "a", -6)
            errors.append(caught.exception)
        self.assertEqual(errors[0].ring, errors[1].ring)
        errors[0].ring.clear()
        self.assertNotEqual(errors[1].ring, [])


class Apart(unittest.TestCase):
    def test_two_books_share_nothing(self):
        one, other = Book(), Book()
        one.place("a")
        one.road("p", "a", "a", 1)
        self.assertEqual(deeds_in(other), ([], ([], {}), []))
        other.place("b")
        other.back()
        self.assertEqual(page_of(one), (["a"], {"p": ("a", "a", 1)}))
        self.assertEqual(deeds_in(Book()), ([], ([], {}), []))

    def test_books_poured_and_twinned_in_turn(self):
        first, second = made(), Book()
        second.pour(first)
        third = second.twin()
        kept = deeds_in(first), deeds_in(third)
        second.away("b")
        second.back()
        second.back()
        second.place("only")
        self.assertEqual((deeds_in(first), deeds_in(third)), kept)
        first.away("a")
        self.assertEqual(deeds_in(third), kept[1])
        self.assertEqual(deeds_in(second), ([([], {})], (["only"], {}), []))

    def test_a_book_read_and_the_one_written(self):
        book = made()
        other = read_book(show_book(book))
        kept = deeds_in(book)
        other.away("a")
        self.assertEqual(deeds_in(book), kept)
        book.away("c")
        self.assertEqual(other.places(), ["b", "c", "d"])


class Soon(unittest.TestCase):
    def test_a_thousand_deeds_at_the_bounds(self):
        start = time.perf_counter()
        for net in list(big_taut_nets())[3:8]:
            book = book_of_net(net)
            names = book.roads()
            for number in range(1000 - len(names) - 20):
                name = names[number % len(names)]
                # Some of these are refused; so the deeds are as many as there may be, or fewer.
                answer(*[(book.length, [name, FAR - number]), (book.turn, [name]), (book.back, [])][number % 3])
            other = book.twin()
            for ask, handed in [(unlike, [book, other]), (clash, [book, other]), (read_book, [show_book(book)])]:
                answer(ask, handed)
            # All is taken back and done again in both.
            self.assertEqual(deeds_in(other), deeds_in(book))
        self.assertLess(time.perf_counter() - start, 30)

    def test_every_question_at_the_bounds(self):
        start = time.perf_counter()
        for net in big_taut_nets():
            book = book_of_net(net)
            for one, other in ((0, 19), (19, 0), (7, 7), (3, 11)):
                for ask in (book.least, book.window, book.tight, book.needed):
                    ask(name_of(one), name_of(other))
                for name in book.roads():
                    book.by(name_of(one), name_of(other), name)
                    book.without(name_of(one), name_of(other), name)
            for name in book.roads():
                book.fall(name)
        self.assertLess(time.perf_counter() - start, 30)


if __name__ == "__main__":
    unittest.main()
