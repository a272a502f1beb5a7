"""Point 20: a desk, every line with each of its answers, and its refusals."""

import itertools
import random
import time
import unittest

from tautroads.books import Book
from tautroads.desk import Desk
from tautroads.errors import (
    Full, NoBook, NoDeed, NoLength, NoLine, NoName, NoPlace, NoRoad, Ring, RoadError, Twice,
)
from tests.helpers import FAR, NO_NAMES, big_taut_nets, book_of_net, check_ring, name_of, page_of, refused, text_of_page

# How many words follow each first word.
WORDS = {
    "use": 1, "twin": 1, "pour": 1, "books": 0, "place": 1, "road": 4, "away": 1, "out": 1, "length": 2, "turn": 1, "back": 0,
    "again": 0, "places": 0, "roads": 0, "ends": 1, "text": 0, "heights": 0, "least": 2, "window": 2, "fall": 1, "by": 3,
    "without": 3, "tight": 2, "needed": 2, "unlike": 1,
}
NO_NUMBERS = [
    "x", "-", "-0", "00", "01", "-01", "+1", "1.0", "1e3", "0x1", "1_0", "--1", "1-", "-a", "1a", "None", "1" * 13,
    "-" + "1" * 13, "0" * 12, "9" * 100, "1" * 980, "~",
]
MADE = [
    "place a", "place b", "place c", "place d", "road ab a b 5", "road ba b a -5", "road bc b c 2", "road far b c 9",
]


def desk_of(lines):
    desk = Desk()
    for line in lines:
        desk.say(line)
    return desk


def all_of(desk, used):
    """All that a desk tells: its books, and the texts of all deeds of the one in use and of each; the desk stays."""
    told = {"books": desk.say("books"), "in use": deeds_of(desk)}
    for name in told["books"].split(" "):
        desk.say("use " + name)
        told[name] = deeds_of(desk)
    desk.say("use " + used)
    return told


def deeds_of(desk):
    """The texts that back and again come to in the book in use; it stays."""
    here = desk.say("text")
    behind = walk_lines(desk, "back")
    ahead = walk_lines(desk, "again")
    for turn in ahead[len(behind):]:
        desk.say("back")
    assert desk.say("text") == here
    return (behind, here, ahead[len(behind):])


def walk_lines(desk, step):
    texts = []
    for turn in range(3000):
        try:
            desk.say(step)
        except NoDeed:
            return texts
        texts.append(desk.say("text"))
    raise AssertionError("there is no end of the steps")


class DeskCase(unittest.TestCase):
    def check(self, desk, line, answer):
        told = desk.say(line)
        self.assertIs(type(told), str)
        self.assertEqual(told, answer, line)

    def check_refused(self, kind, desk, line):
        """Check that the line is refused with just this class."""
        refused(self, kind, desk.say, line)


class Lines(DeskCase):
    def test_a_new_desk(self):
        desk = Desk()
        for line, answer in [
            ("books", "a"), ("places", "none"), ("roads", "none"), ("text", "none"), ("heights", "none"), ("unlike a", "none"),
        ]:
            self.check(desk, line, answer)
        self.check_refused(NoDeed, desk, "back")
        self.check_refused(NoDeed, desk, "again")
        self.check(desk, "use a", "ok")
        self.check(desk, "books", "a")

    def test_deeds(self):
        desk = Desk()
        for line in MADE:
            self.check(desk, line, "ok")
        for line, places, roads in [
            ("turn bc", "a b c d", "ab ba bc far"), ("out far", "a b c d", "ab ba bc"), ("length ab 6", "a b c d", "ab ba bc"),
            ("away b", "a c d", "none"), ("back", "a b c d", "ab ba bc"), ("again", "a c d", "none"), ("back", "a b c d", "ab ba bc"),
            ("length bc -1000000000", "a b c d", "ab ba bc"), ("turn ab", "a b c d", "ab ba bc"), ("pour a", None, None),
            ("back", "a b c d", "ab ba bc"),
        ]:
            if places is None:
                self.check_refused(Twice, desk, line)
                continue
            self.check(desk, line, "ok")
            self.check(desk, "places", places)
            self.check(desk, "roads", roads)
        self.check(desk, "text", "a\nb\nc\nd\nab: a > b 6\nba: b > a -5\nbc: c > b -1000000000")

    def test_ends_and_text(self):
        desk = desk_of(MADE)
        self.check(desk, "ends ab", "a b 5")
        self.check(desk, "ends ba", "b a -5")
        self.check(desk, "text", "a\nb\nc\nd\nab: a > b 5\nba: b > a -5\nbc: b > c 2\nfar: b > c 9")
        desk.say("use other")
        self.check(desk, "text", "none")
        desk.say("place none")
        self.check(desk, "text", "none")
        self.check(desk, "places", "none")
        desk.say("road z none none 0")
        self.check(desk, "text", "none\nz: none > none 0")
        self.check(desk, "ends z", "none none 0")

    def test_heights(self):
        desk = desk_of(MADE)
        self.check(desk, "heights", "a -5; b 0; c 0; d 0")
        desk.say("length bc -1000000000")
        self.check(desk, "heights", "a -5; b 0; c -1000000000; d 0")
        desk.say("use b")
        desk.say("place q")
        self.check(desk, "heights", "q 0")

    def test_least_and_window(self):
        desk = desk_of(MADE)
        for line, answer in [
            ("least a b", "5 ab"), ("least a c", "7 ab bc"), ("least b a", "-5 ba"), ("least a a", "0"), ("least d d", "0"),
            ("least a d", "none"), ("least c a", "none"), ("window a b", "5 5"), ("window a c", "none 7"),
            ("window c a", "-7 none"), ("window a d", "none none"), ("window d d", "0 0"),
        ]:
            self.check(desk, line, answer)

    def test_falls_by_and_without(self):
        desk = desk_of(MADE)
        for line, answer in [
            ("fall ab", "0"), ("fall ba", "0"), ("fall bc", "free"), ("by a c far", "14"), ("by b b ab", "0"), ("by c a ab", "none"),
            ("by a b bc", "none"), ("without b c bc", "9"), ("without a b ab", "none"), ("without a a ab", "0"),
            ("without b a bc", "-5"), ("without d a bc", "none"),
        ]:
            self.check(desk, line, answer)
        desk.say("length ab 1000000000")
        self.check(desk, "fall ab", "999999995")

    def test_tight_and_needed(self):
        desk = desk_of(MADE)
        for line, answer in [
            ("tight a c", "ab ba bc"), ("needed a c", "ab bc"), ("tight a a", "ab ba"), ("needed a a", "none"),
            ("tight c a", "none"), ("needed c a", "none"), ("tight d d", "none"), ("needed b c", "bc"),
        ]:
            self.check(desk, line, answer)

    def test_unlike(self):
        desk = desk_of(MADE + ["twin b"])
        self.check(desk, "unlike b", "none")
        desk.say("length ab 7")
        self.check(desk, "unlike b", "a b 7 5; a c 9 7")
        desk.say("use b")
        self.check(desk, "unlike a", "a b 5 7; a c 7 9")
        desk.say("out bc")
        desk.say("out far")
        self.check(desk, "unlike a", "a b 5 7; a c none 9; b c none 2")
        desk.say("use a")
        self.check(desk, "unlike b", "a b 7 5; a c 9 none; b c 2 none")
        self.check(desk, "unlike a", "none")
        self.check_refused(NoBook, desk, "unlike c")
        self.check_refused(NoBook, desk, "unlike B")


class Shelf(DeskCase):
    def test_use(self):
        desk = desk_of(MADE)
        self.check(desk, "use m", "ok")
        self.check(desk, "books", "a m")
        self.check(desk, "places", "none")
        self.check(desk, "place q", "ok")
        self.check(desk, "use abcdefgh", "ok")
        self.check(desk, "books", "a abcdefgh m")
        self.check_refused(NoDeed, desk, "back")
        self.check(desk, "use m", "ok")
        self.check(desk, "places", "q")
        self.check(desk, "use a", "ok")
        self.check(desk, "places", "a b c d")
        self.check(desk, "use a", "ok")
        self.check(desk, "places", "a b c d")

    def test_twin(self):
        desk = desk_of(MADE + ["back", "back"])
        self.check(desk, "twin t", "ok")
        self.check(desk, "books", "a t")
        # The one in use stays in use.
        self.check(desk, "place here", "ok")
        self.check(desk, "use t", "ok")
        self.check(desk, "places", "a b c d")
        self.check(desk, "roads", "ab ba")
        self.check(desk, "again", "ok")
        self.check(desk, "again", "ok")
        self.check(desk, "roads", "ab ba bc far")
        self.check_refused(NoDeed, desk, "again")
        self.check(desk, "use a", "ok")
        self.check_refused(NoDeed, desk, "again")
        self.check(desk, "places", "a b c d here")
        self.check(desk, "roads", "ab ba")

    def test_twin_in_the_place_of_an_older_one(self):
        desk = desk_of(MADE + ["use b", "place old", "place older", "back", "use a"])
        self.check(desk, "twin b", "ok")
        self.check(desk, "books", "a b")
        self.check(desk, "unlike b", "none")
        self.check(desk, "use b", "ok")
        self.check(desk, "places", "a b c d")
        self.check_refused(NoDeed, desk, "again")
        self.check(desk, "back", "ok")
        self.check(desk, "roads", "ab ba bc")

    def test_twin_of_the_name_of_the_one_in_use(self):
        desk = desk_of(MADE + ["back", "use other", "use a"])
        kept = all_of(desk, "a")
        self.check(desk, "twin a", "ok")
        self.check(desk, "roads", "ab ba bc")
        self.check(desk, "again", "ok")
        self.check(desk, "back", "ok")
        self.assertEqual(all_of(desk, "a"), kept)

    def test_pour(self):
        desk = desk_of(MADE + ["use b", "place b", "place q", "road q b q -3"])
        self.check(desk, "pour a", "ok")
        self.check(desk, "places", "a b c d q")
        self.check(desk, "roads", "ab ba bc far q")
        self.check(desk, "back", "ok")
        self.check(desk, "places", "b q")
        self.check(desk, "again", "ok")
        self.check_refused(Twice, desk, "pour a")
        self.check_refused(Twice, desk, "pour b")
        self.check(desk, "away a", "ok")
        self.check(desk, "use a", "ok")
        self.check(desk, "places", "a b c d")
        self.check(desk, "roads", "ab ba bc far")
        self.check_refused(NoBook, desk, "pour c")
        self.check_refused(NoBook, desk, "pour C")
        self.check(desk, "use c", "ok")
        self.check(desk, "pour c", "ok")
        self.check(desk, "back", "ok")
        self.check_refused(NoDeed, desk, "back")

    def test_twenty_books_and_one_more(self):
        desk = desk_of(MADE)
        for number in range(19):
            self.check(desk, ("use " if number % 2 else "twin ") + name_of(number), "ok")
        names = " ".join(sorted(["a"] + [name_of(number) for number in range(19)]))
        self.check(desk, "books", names)
        kept = all_of(desk, "ar")
        for line in ("use", "twin"):
            self.check_refused(Full, desk, line + " b")
            self.check_refused(Full, desk, line + " zzzzzzzz")
            for name in ("B", "b1", "abcdefghi", "-", "9"):
                self.check_refused(NoName, desk, line + " " + name)
        self.check_refused(NoBook, desk, "pour b")
        self.check_refused(NoBook, desk, "unlike b")
        self.assertEqual(all_of(desk, "ar"), kept)
        # The ones that are there need no room.
        for name in ("aa", "as", "a"):
            self.check(desk, "twin " + name, "ok")
            self.check(desk, "use " + name, "ok")
        self.check(desk, "books", names)

    def test_two_desks_share_nothing(self):
        one, other = Desk(), Desk()
        for line in MADE + ["use b", "place q"]:
            one.say(line)
        self.check(other, "books", "a")
        self.check(other, "places", "none")
        self.check_refused(NoDeed, other, "back")
        other.say("place z")
        other.say("use c")
        self.check(one, "books", "a b")
        self.check(one, "places", "q")
        self.check(Desk(), "text", "none")


class Refused(DeskCase):
    def desk(self):
        """A desk whose books have deeds to take back and to do again."""
        return desk_of(MADE + ["twin b", "back", "use c", "place p", "place q", "back", "use a"])

    def test_no_line(self):
        desk = self.desk()
        kept = all_of(desk, "a")
        lines = ["", " ", "  ", "~", "nothing", "Books", "BOOKS", "book", "a", "0", "say books", "use\ta", "detours a b", "clash b"]
        for word, many in WORDS.items():
            for number in [number for number in range(7) if number != many]:
                lines.append(" ".join([word] + ["a"] * number))
                lines.append(" ".join([word] + ["1"] * number))
            for rest in (["1"] * many, ["a"] * many, ["a"] * many + ["1"]):
                lines += [" ".join([" " + word] + rest), " ".join([word + " "] + rest), " ".join([word] + rest + [""])]
            # As many words as there should be, if empty ones counted.
            for empty in itertools.product(("", "a", "1"), repeat=many):
                if "" in empty:
                    lines.append(" ".join([word, *empty]))
            lines += [" " + word, word + " ", word + "  "]
            lines += [word.upper() + " a" * many, word + "s" + " a" * many if word + "s" not in WORDS else "x", "x" + word]
        for number in NO_NUMBERS:
            lines += ["road new a b " + number, "length ab " + number]
        lines += ["road new a b", "road new a 1 b", "length 1 ab", "road 1 2 3 x", "road A A A x", "length zz x"]
        for line in lines:
            self.check_refused(NoLine, desk, line)
        self.assertEqual(all_of(desk, "a"), kept)

    def test_no_line_is_ahead_of_all_else(self):
        desk = desk_of(["use " + name_of(number) for number in range(19)] + ["use a"] + MADE)
        for line in [
            "use A b", "use zz zz", "twin", "pour zz zz", "unlike", "place", "place A B", "road A zz zz 01", "road ab a b -0", "length zz 00",
            "back 1", "again again", "ends", "least zz", "by zz zz", "fall", "use  A", "pour zz ", " unlike zz",
        ]:
            self.check_refused(NoLine, desk, line)

    def test_numbers_of_twelve_figures(self):
        desk = self.desk()
        for number in ("999999999999", "-999999999999", "1000000001", "-1000000001", "100000000000"):
            self.check_refused(NoLength, desk, "road new a b " + number)
            self.check_refused(NoLength, desk, "length ab " + number)
            self.check_refused(NoRoad, desk, "length zz " + number)
            self.check_refused(NoName, desk, "road NEW zz b " + number)
        for number in ("1000000000", "12", "5"):
            self.check(desk, "length ab " + number, "ok")
            self.check(desk, "ends ab", "a b " + number)
        self.check(desk, "road new d d 0", "ok")
        self.check(desk, "road low d c -1000000000", "ok")
        self.check(desk, "ends low", "d c -1000000000")

    def test_no_name(self):
        desk = self.desk()
        kept = all_of(desk, "a")
        for name in [name for name in NO_NAMES if name and " " not in name and "\n" not in name]:
            self.check_refused(NoName, desk, "use " + name)
            self.check_refused(NoName, desk, "twin " + name)
            self.check_refused(NoName, desk, "place " + name)
            self.check_refused(NoName, desk, "road " + name + " a b 1")
            self.check_refused(NoBook, desk, "pour " + name)
            self.check_refused(NoBook, desk, "unlike " + name)
            self.check_refused(NoPlace, desk, "away " + name)
            self.check_refused(NoPlace, desk, "least a " + name)
            self.check_refused(NoRoad, desk, "out " + name)
            self.check_refused(NoRoad, desk, "ends " + name)
        self.assertEqual(all_of(desk, "a"), kept)

    def test_what_the_book_refuses(self):
        desk = self.desk()
        kept = all_of(desk, "a")
        for line, kind in [
            ("place a", Twice), ("place d", Twice), ("road ab a zz 1", Twice), ("road new a zz 1000000001", NoPlace),
            ("road new zz a 1", NoPlace), ("road new a b 1000000001", NoLength), ("road new d d -1", Ring),
            ("road new b a -6", Ring), ("away zz", NoPlace), ("away ab", NoPlace), ("out zz", NoRoad), ("out a", NoRoad),
            ("length zz 1", NoRoad), ("length ab 1000000001", NoLength), ("length ab 4", Ring), ("turn zz", NoRoad),
            ("pour a", Twice), ("pour b", Twice), ("ends zz", NoRoad), ("least zz a", NoPlace), ("least a zz", NoPlace),
            ("window zz a", NoPlace), ("window a zz", NoPlace), ("fall zz", NoRoad), ("by a zz zz", NoPlace),
            ("by zz a ab", NoPlace), ("by a b zz", NoRoad), ("without a zz zz", NoPlace), ("without a b zz", NoRoad),
            ("tight a zz", NoPlace), ("needed zz a", NoPlace),
        ]:
            self.check_refused(kind, desk, line)
        self.assertEqual(all_of(desk, "a"), kept)
        self.check(desk, "again", "ok")
        self.check_refused(NoDeed, desk, "again")

    def test_a_ring_is_told_by_a_line_too(self):
        desk = self.desk()
        with self.assertRaises(Ring) as caught:
            desk.say("road new b a -6")
        roads = {"ab": ("a", "b", 5), "ba": ("b", "a", -5), "new": ("b", "a", -6)}
        check_ring(self, caught.exception.ring, roads)
        desk.say("use q")
        for line in ("place a", "place b", "road new b a -6"):
            desk.say(line)
        with self.assertRaises(Ring) as caught:
            desk.say("pour a")
        check_ring(self, caught.exception.ring, roads)
        self.check(desk, "text", "a\nb\nnew: b > a -6")

    def test_full_books(self):
        desk = desk_of(["place " + name_of(number) for number in range(20)])
        self.check_refused(Full, desk, "place b")
        for number in range(60):
            desk.say("road " + name_of(number) + " aa ab " + str(number))
        self.check_refused(Full, desk, "road b aa ab 1")
        self.check_refused(Full, desk, "road b aa aa -1")
        desk.say("use b")
        desk.say("place b")
        self.check_refused(Full, desk, "pour a")
        desk.say("back")
        self.check(desk, "pour a", "ok")
        self.check_refused(Full, desk, "place b")


def names_or_none(names):
    return " ".join(names) or "none"


def number_or_none(number):
    return "none" if number is None else str(number)


class Rows(DeskCase):
    """Rows of lines by chance, the same ones in each run, beside books to which the same is done."""

    NAMES = ["a", "b", "x", "p", "q", "A"]

    def chance_line(self, dice):
        word = dice.choice([*WORDS] + ["place", "road", "road", "road", "road", "length", "place", "turn"] * 2)
        words = [word] + [dice.choice(self.NAMES) for turn in range(WORDS[word])]
        if word in ("road", "length"):
            words[-1] = str(dice.choice([dice.randint(-3, 9), dice.randint(-3, 9), FAR, -FAR, FAR + 1]))
        return words

    def plain_answer(self, shelf, words):
        """The answer to a line; shelf has the books by names, and the name in use at "used"."""
        word, *told = words
        book = shelf[shelf["used"]]
        if word in ("use", "twin"):
            if told[0] == "A":
                raise NoName()
            if word == "use":
                shelf.setdefault(told[0], Book())
                shelf["used"] = told[0]
            elif told[0] != shelf["used"]:
                shelf[told[0]] = book.twin()
            return "ok"
        if word in ("pour", "unlike") and told[0] not in shelf:
            raise NoBook()
        if word == "books":
            return " ".join(sorted(set(shelf) - {"used"}))
        if word == "pour":
            book.pour(shelf[told[0]])
            return "ok"
        return self.answer_of_book(shelf, book, word, told)

    def answer_of_book(self, shelf, book, word, told):
        if word == "text":
            return text_of_page(page_of(book)) or "none"
        if word == "unlike":
            return self.unlike_answer(book, shelf[told[0]])
        if word in ("road", "length"):
            told = told[:-1] + [int(told[-1])]
        answer = getattr(book, word)(*told)
        if word in ("places", "roads", "tight", "needed"):
            return names_or_none(answer)
        if word in ("by", "without"):
            return number_or_none(answer)
        if word == "fall":
            return "free" if answer is None else str(answer)
        if word == "ends":
            return " ".join(map(str, answer))
        if word == "window":
            return " ".join(map(number_or_none, answer))
        if word == "heights":
            return "; ".join(f"{place} {height}" for place, height in answer) or "none"
        if word == "least":
            return "none" if answer[0] == "none" else " ".join([str(answer[2])] + answer[1])
        return "ok"

    def unlike_answer(self, one, other):
        rows = []
        both = sorted(set(one.places()) & set(other.places()))
        for start, end in itertools.product(both, repeat=2):
            here, there = (number_or_none(book.window(start, end)[1]) for book in (one, other))
            if here != there:
                rows.append(f"{start} {end} {here} {there}")
        return "; ".join(rows) or "none"

    def told(self, call, *handed):
        try:
            return call(*handed)
        except RoadError as error:
            return (type(error), getattr(error, "ring", None))

    def test_lines_by_chance(self):
        dice = random.Random(20)
        seen = set()
        for row in range(60):
            desk, shelf = Desk(), {"a": Book(), "used": "a"}
            for turn in range(120):
                words = self.chance_line(dice)
                told = self.told(desk.say, " ".join(words))
                self.assertEqual(told, self.told(self.plain_answer, shelf, words), words)
                seen.add((words[0], told[0] if isinstance(told, tuple) else told in ("none", "ok", "free")))
            for name in set(shelf) - {"used"}:
                self.check(desk, "use " + name, "ok")
                self.check(desk, "text", text_of_page(page_of(shelf[name])) or "none")
        for word in WORDS:
            self.assertTrue({(word, True), (word, False)} & seen, word)

    def test_a_thousand_lines_at_the_bounds(self):
        start = time.perf_counter()
        for net in list(big_taut_nets())[3:9]:
            book = book_of_net(net)
            desk = Desk()
            lines = ["place " + name for name in book.places()]
            lines += [f"road {name} {' '.join(map(str, book.ends(name)))}" for name in book.roads()]
            for line in lines:
                self.check(desk, line, "ok")
            self.check(desk, "text", text_of_page(page_of(book)))
            asked = ["needed aa at", "tight at aa", "least aa at", "heights", "text", "by aa at ab", "without aa at ab",
                     "fall aa", "window aa at", "length aa 1000000000", "back", "again", "twin b", "unlike b", "turn aa", "back"]
            for number in range(1000 - len(lines) - 1):
                self.told(desk.say, asked[number % len(asked)])
        self.assertLess(time.perf_counter() - start, 30)

    def test_long_lines(self):
        desk = desk_of(MADE)
        for line in ["place " + "a" * 994, "use " + "b" * 996, "twin " + "b" * 995]:
            self.check_refused(NoName, desk, line)
        for line in ["a" * 1000, " " * 1000, "a " * 500, "length ab " + "1" * 990, "length ab -" + "1" * 989, "books" + " a" * 497]:
            self.check_refused(NoLine, desk, line)


if __name__ == "__main__":
    unittest.main()
