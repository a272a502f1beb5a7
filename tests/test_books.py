"""Point 16: each deed of a book, done and refused, and the rings that are told."""

import itertools
import unittest

from tautroads.books import Book
from tautroads.errors import Full, NoDeed, NoLength, NoName, NoPlace, NoRoad, Ring, Twice
from tests.helpers import (
    FAR, NO_NAMES, book_anew, book_of, check_book, check_ring, deeds_in, name_of, page_of, refusal_of, refused,
)

# From a to b and back comes to just 0; c hangs on it by a road that has a place's name; d stands alone.
PLACES = ["a", "b", "c", "d"]
ROADS = [("x", "a", "b", 5), ("y", "b", "a", -5), ("c", "b", "c", 2), ("loop", "c", "c", 0)]


def some_book():
    """A book with a deed that was taken back, so that it can be seen what becomes of that."""
    book = book_of(PLACES, ROADS)
    book.place("e")
    book.back()
    return book


def filled(book):
    """Fill a book up to 60 roads with long ones from a to a, which close no ring below 0."""
    for number in range(60 - len(book.roads())):
        book.road("z" + name_of(number), "a", "a", FAR)
    return book


class DeedCase(unittest.TestCase):
    def check_refused(self, kind, book, deed, *told):
        """Check that the deed is refused with just this class, and that nothing is changed by it."""
        kept = deeds_in(book)
        error = refusal_of(getattr(book, deed), *told)
        self.assertIs(type(error), kind, (deed, told))
        self.assertEqual(deeds_in(book), kept, (deed, told))
        return error

    def check_ring_told(self, book, roads, deed, *told):
        """Check that the deed is refused with a ring of these roads, in the place of those that stand there."""
        error = self.check_refused(Ring, book, deed, *told)
        check_ring(self, error.ring, {**page_of(book)[1], **roads})
        return error.ring

    def check_done(self, book, page, deed, *told):
        """Check that the deed leads to this page, is one deed, and forgets those that were taken back."""
        behind, here, ahead = deeds_in(book)
        self.assertIsNone(getattr(book, deed)(*told))
        self.assertEqual(deeds_in(book), ([here] + behind, page, []))
        check_book(self, book, page)

    def check_taken_back(self, book):
        """Check that the last deed can be taken back and done again."""
        behind, here, ahead = deeds_in(book)
        self.assertIsNone(book.back())
        self.assertEqual(deeds_in(book), (behind[1:], behind[0], [here] + ahead))
        check_book(self, book, behind[0])
        self.assertIsNone(book.again())
        self.assertEqual(deeds_in(book), (behind, here, ahead))
        check_book(self, book, here)


class Place(DeedCase):
    def test_an_empty_book(self):
        self.assertEqual(deeds_in(Book()), ([], ([], {}), []))
        check_book(self, Book(), ([], {}))

    def test_places_are_told_in_order(self):
        book = Book()
        done = []
        for name in ["m", "b", "ba", "z", "abcdefgh", "a", "zzzzzzzz", "az"]:
            done.append(name)
            self.check_done(book, (sorted(done), {}), "place", name)
            self.check_taken_back(book)
        self.assertEqual(book.places(), ["a", "abcdefgh", "az", "b", "ba", "m", "z", "zzzzzzzz"])

    def test_no_name(self):
        for name in NO_NAMES:
            self.check_refused(NoName, Book(), "place", name)
            self.check_refused(NoName, some_book(), "place", name)

    def test_every_letter_makes_a_name(self):
        for start in range(0, 26, 13):
            book = Book()
            for letter in "abcdefghijklmnopqrstuvwxyz"[start:start + 13]:
                book.place(letter)
            self.assertEqual(len(book.places()), 13)

    def test_twice(self):
        for name in PLACES:
            self.check_refused(Twice, some_book(), "place", name)

    def test_a_place_that_went_or_was_taken_back_is_free_again(self):
        book = some_book()
        book.place("e")
        book.away("e")
        book.place("e")
        book.back()
        self.check_done(book, (PLACES + ["e"], dict(page_of(book)[1])), "place", "e")

    def test_twenty_and_one_more(self):
        book = Book()
        for number in range(20):
            self.assertIsNone(book.place(name_of(number)))
        self.check_refused(Full, book, "place", "b")
        self.check_refused(Full, book, "place", "zzzzzzzz")
        for name in NO_NAMES:
            self.check_refused(NoName, book, "place", name)
        for name in book.places():
            self.check_refused(Twice, book, "place", name)
        book.away("ab")
        self.check_done(book, ([name for name in map(name_of, range(20)) if name != "ab"] + ["b"], {}), "place", "b")
        self.check_refused(Full, book, "place", "ab")

    def test_a_place_may_have_a_roads_name(self):
        book = some_book()
        self.check_done(book, (PLACES + ["x"], dict(page_of(book)[1])), "place", "x")


class Road(DeedCase):
    def test_roads_of_every_length(self):
        for length in (0, 1, -1, 7, -FAR, FAR):
            book = book_of(["a", "b"], [])
            self.check_done(book, (["a", "b"], {"r": ("a", "b", length)}), "road", "r", "a", "b", length)
            self.check_taken_back(book)

    def test_roads_side_by_side_and_from_a_place_to_itself(self):
        book = some_book()
        roads = dict(page_of(book)[1])
        for name, one, other, length in [("xx", "a", "b", 5), ("b", "d", "d", 0), ("dd", "d", "d", FAR), ("a", "c", "d", 1)]:
            roads[name] = (one, other, length)
            self.check_done(book, (PLACES, dict(roads)), "road", name, one, other, length)

    def test_a_road_with_the_name_of_one_of_its_places(self):
        book = book_of(["a", "b"], [])
        self.check_done(book, (["a", "b"], {"a": ("a", "b", 3)}), "road", "a", "a", "b", 3)
        self.check_done(book, (["a", "b"], {"a": ("a", "b", 3), "b": ("a", "b", 2)}), "road", "b", "a", "b", 2)

    def test_reasons_in_the_order_told(self):
        wrong_names = [(name, NoName) for name in NO_NAMES[::3]] + [(road[0], Twice) for road in ROADS] + [("new", None)]
        ends = [("b", "a", None)] + [
            (one, other, NoPlace)
            for one, other in [("b", "e"), ("e", "a"), ("e", "e"), ("x", "a"), ("b", "y"), ("", "a"), ("b", "A"), ("b ", "a")]
        ]
        lengths = [
            (FAR + 1, NoLength), (-FAR - 1, NoLength), (10 ** 29, NoLength), (-(10 ** 29), NoLength),
            (-6, Ring), (-FAR, Ring), (-5, None), (FAR, None),
        ]
        for book, room in ((some_book(), None), (filled(some_book()), Full)):
            for (name, first), (one, other, second), (length, third) in itertools.product(wrong_names, ends, lengths):
                # Full stands between NoLength and Ring.
                reasons = [first, second, NoLength if third is NoLength else None, room, third]
                kind = next((kind for kind in reasons if kind is not None), None)
                if kind is not None:
                    error = refusal_of(book.road, name, one, other, length)
                    self.assertIs(type(error), kind, (name, one, other, length, room))
        kept = deeds_in(book)
        self.assertEqual(kept, deeds_in(filled(some_book())))

    def test_a_refused_road_changes_nothing(self):
        for told, kind in [
            (("X", "a", "b", 1), NoName), (("x", "a", "b", 1), Twice), (("new", "a", "e", 1), NoPlace),
            (("new", "e", "a", 1), NoPlace), (("new", "a", "b", FAR + 1), NoLength), (("new", "d", "d", -1), Ring),
        ]:
            self.check_refused(kind, some_book(), "road", *told)
        self.check_refused(Full, filled(some_book()), "road", "new", "a", "b", 5)
        self.check_refused(Full, filled(some_book()), "road", "new", "a", "a", -1)

    def test_sixty_and_one_more(self):
        book = book_of(["a", "b"], [])
        for number in range(60):
            self.assertIsNone(book.road(name_of(number), "a", "b", number - 30))
        self.assertEqual(len(book.roads()), 60)
        self.check_refused(Full, book, "road", "c", "a", "b", 0)
        book.out("ba")
        self.assertIsNone(book.road("c", "a", "b", 0))
        self.check_refused(Full, book, "road", "ba", "a", "b", 0)

    def test_a_ring_of_just_0_is_let_by_and_one_shorter_is_not(self):
        book = book_of(["a", "b", "c"], [("x", "a", "b", 4), ("y", "b", "c", -1)])
        self.assertEqual(
            sorted(self.check_ring_told(book, {"z": ("c", "a", -4)}, "road", "z", "c", "a", -4)), ["x", "y", "z"]
        )
        self.check_done(
            book, (["a", "b", "c"], {**page_of(book)[1], "z": ("c", "a", -3)}), "road", "z", "c", "a", -3
        )
        self.check_ring_told(book, {"w": ("a", "b", 3)}, "road", "w", "a", "b", 3)
        self.assertEqual(self.check_ring_told(book, {"w": ("a", "a", -1)}, "road", "w", "a", "a", -1), ["w"])
        self.assertIsNone(book.road("w", "a", "a", 0))

    def test_rings_by_all_places_with_far_lengths(self):
        book = book_of(map(name_of, range(20)), [])
        for number in range(18):
            book.road(name_of(60 - number), name_of(number), name_of(number + 1), FAR if number % 2 else -FAR)
        book.road("z", name_of(18), name_of(19), 0)
        road = (name_of(19), name_of(0), -1)
        self.assertEqual(len(self.check_ring_told(book, {"a": road}, "road", "a", *road)), 20)
        self.assertIsNone(book.road("a", name_of(19), name_of(0), 0))
        self.assertIsNone(book.road("b", name_of(7), name_of(6), FAR))
        self.check_ring_told(book, {"c": (name_of(7), name_of(6), FAR - 1)}, "road", "c", name_of(7), name_of(6), FAR - 1)


class AwayAndOut(DeedCase):
    def test_a_place_goes_with_all_its_roads(self):
        book = some_book()
        self.check_done(book, (["a", "c", "d"], {"loop": ("c", "c", 0)}), "away", "b")
        self.check_taken_back(book)
        self.check_done(book, (["a", "d"], {}), "away", "c")
        self.check_taken_back(book)
        self.check_done(book, (["a"], {}), "away", "d")
        self.check_done(book, ([], {}), "away", "a")
        self.check_taken_back(book)
        for turn in range(4):
            book.back()
        check_book(self, book, (PLACES, {name: tuple(rest) for name, *rest in ROADS}))

    def test_roads_from_it_to_it_and_to_itself(self):
        book = book_of(["p", "q", "r"], [("a", "p", "q", 1), ("b", "q", "p", 2), ("c", "p", "p", 3), ("p", "q", "r", 4)])
        self.check_done(book, (["q", "r"], {"p": ("q", "r", 4)}), "away", "p")
        self.check_taken_back(book)

    def test_no_place(self):
        for name in ["e", "x", "loop", "aa", *NO_NAMES]:
            self.check_refused(NoPlace, some_book(), "away", name)
            self.check_refused(NoPlace, Book(), "away", name)

    def test_a_place_away_is_none(self):
        book = some_book()
        book.away("b")
        self.check_refused(NoPlace, book, "away", "b")
        self.check_refused(NoPlace, book, "road", "new", "a", "b", 1)
        self.check_refused(NoRoad, book, "out", "x")
        book.place("b")
        self.assertEqual(book.roads(), ["loop"])
        book.road("x", "b", "a", 9)
        self.assertEqual(book.ends("x"), ("b", "a", 9))

    def test_a_road_goes(self):
        for name, *rest in ROADS:
            book = some_book()
            roads = dict(page_of(book)[1])
            del roads[name]
            self.check_done(book, (PLACES, roads), "out", name)
            self.check_refused(NoRoad, book, "out", name)
            self.check_taken_back(book)
            book.road(name, "d", "d", 4)
            self.assertEqual(book.ends(name), ("d", "d", 4))

    def test_no_road(self):
        for name in ["a", "d", "e", "z", *NO_NAMES]:
            self.check_refused(NoRoad, some_book(), "out", name)
            self.check_refused(NoRoad, Book(), "out", name)

    def test_a_ring_that_only_the_road_kept_away_is_let_by_without_it(self):
        book = some_book()
        self.check_ring_told(book, {"new": ("b", "a", -6)}, "road", "new", "b", "a", -6)
        book.out("x")
        self.assertIsNone(book.road("new", "b", "a", -6))
        self.check_ring_told(book, {"x": ("a", "b", 5)}, "road", "x", "a", "b", 5)


class LengthAndTurn(DeedCase):
    def test_lengths(self):
        for name, number in [("x", 6), ("x", FAR), ("y", -4), ("c", -FAR), ("c", 0), ("loop", 3), ("x", 5), ("loop", 0)]:
            book = some_book()
            one, other, old = book.ends(name)
            roads = {**page_of(book)[1], name: (one, other, number)}
            self.check_done(book, (PLACES, roads), "length", name, number)
            self.check_taken_back(book)

    def test_reasons_of_length_in_the_order_told(self):
        for name in ["a", "e", "z", *NO_NAMES]:
            for number in (0, FAR + 1, -FAR - 1, -(10 ** 29)):
                self.check_refused(NoRoad, some_book(), "length", name, number)
        for name, *rest in ROADS:
            for number in (FAR + 1, -FAR - 1, 10 ** 29, -(10 ** 29)):
                self.check_refused(NoLength, some_book(), "length", name, number)
        book = some_book()
        self.check_ring_told(book, {"x": ("a", "b", 4)}, "length", "x", 4)
        self.check_ring_told(book, {"y": ("b", "a", -6)}, "length", "y", -6)
        self.check_ring_told(book, {"y": ("b", "a", -FAR)}, "length", "y", -FAR)
        self.assertEqual(self.check_ring_told(book, {"loop": ("c", "c", -1)}, "length", "loop", -1), ["loop"])

    def test_a_length_in_a_full_book(self):
        book = filled(some_book())
        for number in range(16):
            book.place(name_of(number))
        self.assertEqual((len(book.places()), len(book.roads())), (20, 60))
        self.assertIsNone(book.length("x", 7))
        self.assertIsNone(book.turn("c"))
        self.check_ring_told(book, {"x": ("a", "b", 4)}, "length", "x", 4)
        self.assertEqual(book.ends("x"), ("a", "b", 7))

    def test_turns(self):
        for name, there in [("c", ("c", "b", 2)), ("loop", ("c", "c", 0))]:
            book = some_book()
            self.check_done(book, (PLACES, {**page_of(book)[1], name: there}), "turn", name)
            self.check_taken_back(book)
            self.check_done(book, (PLACES, {name: tuple(rest) for name, *rest in ROADS}), "turn", name)

    def test_reasons_of_turn(self):
        for name in ["a", "e", "z", *NO_NAMES]:
            self.check_refused(NoRoad, some_book(), "turn", name)
        # Turned, y leads from a to b for -5, and nothing leads back; then x may not be turned any more.
        book = some_book()
        self.check_done(book, (PLACES, {**page_of(book)[1], "y": ("a", "b", -5)}), "turn", "y")
        self.check_done(book, (PLACES, {**page_of(book)[1], "x": ("b", "a", 5)}), "turn", "x")
        self.check_done(book, (PLACES, {**page_of(book)[1], "x": ("b", "a", 6)}), "length", "x", 6)
        book = book_of(["a", "b"], [("p", "a", "b", 4), ("q", "a", "b", -5)])
        self.check_ring_told(book, {"p": ("b", "a", 4)}, "turn", "p")
        self.check_ring_told(book, {"q": ("b", "a", -5)}, "turn", "q")
        book.length("p", 5)
        self.assertIsNone(book.turn("p"))

    def test_a_deed_that_changes_nothing_is_one(self):
        for deed, told in (("length", ("x", 5)), ("turn", ("loop",)), ("length", ("loop", 0))):
            book = some_book()
            self.check_done(book, page_of(book), deed, *told)
            self.check_done(book, page_of(book), deed, *told)
            self.check_taken_back(book)


class Pour(DeedCase):
    def test_another_book(self):
        book = some_book()
        other = book_of(["aa", "b", "d"], [("a", "b", "d", 1), ("w", "aa", "b", -FAR), ("zz", "d", "aa", FAR)])
        kept = deeds_in(other)
        roads = {**page_of(book)[1], **page_of(other)[1]}
        self.check_done(book, (["a", "aa", "b", "c", "d"], roads), "pour", other)
        self.check_taken_back(book)
        self.assertEqual(deeds_in(other), kept)

    def test_into_an_empty_one_and_an_empty_one_into_it(self):
        book, other = Book(), some_book()
        self.check_done(book, page_of(other), "pour", other)
        self.check_taken_back(book)
        self.check_done(other, page_of(other), "pour", Book())
        self.check_taken_back(other)
        self.check_done(other, page_of(other), "pour", book_of(["d", "a"], []))
        self.check_done(Book(), ([], {}), "pour", Book())

    def test_itself(self):
        book = book_of(PLACES, [])
        self.check_done(book, (PLACES, {}), "pour", book)
        self.check_taken_back(book)
        book.road("x", "a", "b", 1)
        self.check_refused(Twice, book, "pour", book)
        empty = Book()
        self.check_done(empty, ([], {}), "pour", empty)
        self.check_refused(Twice, some_book(), "pour", some_book())

    def test_what_is_done_in_one_changes_nothing_in_the_other(self):
        book, other = book_of(["p"], []), some_book()
        book.pour(other)
        kept = deeds_in(book)
        other.length("x", 9)
        other.turn("c")
        other.away("a")
        other.back()
        self.assertEqual(deeds_in(book), kept)
        check_book(self, book, kept[1])
        kept = deeds_in(other)
        book.length("x", 7)
        book.out("loop")
        book.away("b")
        book.back()
        book.back()
        self.assertEqual(deeds_in(other), kept)
        check_book(self, other, kept[1])

    def test_reasons_in_the_order_told(self):
        # With x of the book, new closes a ring of -6 and 5, or one of just 0.
        def other(twice, places, roads, ring):
            made = book_of(["a", "b"], [("new", "b", "a", -6 if ring else -5)])
            if twice:
                made.road("x", "a", "b", FAR)
            for number in range(places):
                made.place("p" + name_of(number))
            for number in range(roads):
                made.road("q" + name_of(number), "a", "a", 1)
            return made

        def book():
            made = book_of(PLACES, ROADS)
            for number in range(54 - len(ROADS)):
                made.road("z" + name_of(number), "a", "a", FAR)
            made.place("e")
            made.back()
            return made

        for twice, places, roads, ring in itertools.product((False, True), (0, 16, 17, 18), (0, 5, 6, 40), (False, True)):
            many = roads + 1
            made = other(twice, places, roads, ring)
            kept = deeds_in(made)
            mine = book()
            if twice:
                self.check_refused(Twice, mine, "pour", made)
            elif places > 16 or many > 6:
                self.check_refused(Full, mine, "pour", made)
            elif ring:
                self.check_ring_told(mine, page_of(made)[1], "pour", made)
            else:
                self.assertIsNone(mine.pour(made))
                self.assertEqual(len(mine.places()), 4 + places)
                self.assertEqual(len(mine.roads()), 54 + many)
            self.assertEqual(deeds_in(made), kept)

    def test_places_that_both_have_take_no_room(self):
        names = [name_of(number) for number in range(20)]
        book = book_of(names, [])
        self.check_done(book, (names, {}), "pour", book_of(names[::-1], []))
        self.check_done(book, (names, {"a": ("aa", "ab", 1)}), "pour", book_of(names[:2], [("a", "aa", "ab", 1)]))
        self.check_refused(Full, book, "pour", book_of(names[:5] + ["b"], []))

    def test_a_ring_that_takes_roads_of_both(self):
        book = book_of(["a", "b", "c"], [("p", "a", "b", 1), ("q", "b", "c", 1)])
        for length in (-2, -3):
            other = book_of(["a", "c", "z"], [("r", "c", "z", 0), ("s", "z", "a", length)])
            if length == -3:
                self.assertEqual(
                    sorted(self.check_ring_told(book, page_of(other)[1], "pour", other)), ["p", "q", "r", "s"]
                )
            else:
                self.assertIsNone(book.twin().pour(other))


class BackAndAgain(DeedCase):
    def test_nothing_to_take_back_or_do_again(self):
        self.check_refused(NoDeed, Book(), "back")
        self.check_refused(NoDeed, Book(), "again")
        book = book_of(PLACES, ROADS)
        self.check_refused(NoDeed, book, "again")

    def test_to_the_first_deed_and_on_to_the_last(self):
        book = book_of(PLACES, ROADS)
        pages = [page_of(book)]
        for turn in range(8):
            self.assertIsNone(book.back())
            pages.append(page_of(book))
            check_book(self, book, pages[-1])
        self.assertEqual(pages[-1], ([], {}))
        self.assertEqual(pages[3], (PLACES, {"x": ("a", "b", 5)}))
        self.check_refused(NoDeed, book, "back")
        for page in pages[-2::-1]:
            self.assertIsNone(book.again())
            self.assertEqual(page_of(book), page)
        self.check_refused(NoDeed, book, "again")
        check_book(self, book, pages[0])

    def test_a_deed_done_since_forgets_those_taken_back(self):
        for deed, *told in [
            ("place", "new"), ("road", "new", "a", "b", 9), ("away", "a"), ("out", "x"), ("length", "x", 8),
            ("length", "x", 5), ("turn", "c"), ("turn", "loop"), ("pour", Book()), ("pour", book_of(["new"], [])),
        ]:
            book = some_book()
            getattr(book, deed)(*told)
            self.check_refused(NoDeed, book, "again")
            self.assertIsNone(book.back())
            self.assertIsNone(book.again())
            self.check_refused(NoDeed, book, "again")

    def test_a_refused_deed_forgets_nothing(self):
        for deed, *told in [
            ("place", "a"), ("place", "A"), ("road", "x", "a", "b", 9), ("road", "new", "d", "d", -1), ("away", "e"),
            ("out", "z"), ("length", "x", FAR + 1), ("length", "x", 4), ("turn", "z"), ("pour", some_book()),
            ("pour", book_of(["a"], [("new", "a", "a", 1), ("y", "a", "a", 1)])),
        ]:
            book = some_book()
            self.assertIsNotNone(refusal_of(getattr(book, deed), *told), deed)
            self.assertIsNone(book.again())
            self.assertEqual(book.places(), PLACES + ["e"])

    def test_back_and_again_themselves_forget_nothing(self):
        book = book_of(PLACES, [])
        for turn in range(3):
            book.back()
            book.back()
            book.again()
            self.assertEqual(deeds_in(book)[2], [(PLACES, {})])
            book.again()
            refused(self, NoDeed, book.again)

    def test_a_thousand_deeds(self):
        book = book_of(PLACES, ROADS)
        pages = [([], {})] + [None] * 7 + [page_of(book)]
        for number in range(992):
            if number % 4 == 3:
                book.turn("c")
            elif number % 4 == 2:
                book.out("r")
            elif number % 4 == 1:
                book.length("r", -number)
            else:
                book.road("r", "a", "d", number)
            pages.append(page_of(book))
        self.assertEqual(len(pages), 1001)
        for turn in range(2):
            for page in pages[-2::-1]:
                book.back()
                if page is not None:
                    self.assertEqual(page_of(book), page)
            self.check_refused(NoDeed, book, "back")
            for page in pages[1:]:
                book.again()
                if page is not None:
                    self.assertEqual(page_of(book), page)
            refused(self, NoDeed, book.again)
        check_book(self, book, pages[-1])
        for turn in range(500):
            book.back()
        self.check_done(book, (PLACES, {**pages[500][1], "new": ("d", "a", 1)}), "road", "new", "d", "a", 1)
        check_book(self, book_anew(page_of(book)), page_of(book))


if __name__ == "__main__":
    unittest.main()
