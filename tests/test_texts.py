"""Point 19: roads and books written, and read back."""

import itertools
import random
import re
import unittest

from tautroads.books import Book
from tautroads.errors import NoDeed, NoText
from tautroads.texts import read_book, read_road, show_book, show_road
from tests.helpers import (
    FAR, NO_NAMES, big_taut_nets, book_of, book_of_net, chance_taut_net, check_book, deeds_in, name_of, net_of_page,
    page_of, plain_taut, refused, small_taut_nets, text_of_page,
)

ROAD = re.compile(r"([a-z]{1,8}): ([a-z]{1,8}) > ([a-z]{1,8}) (0|-?[1-9][0-9]*)")
SIGNS = [chr(code) for code in range(ord(" "), ord("~") + 1)] + ["\n"]

BOOK = book_of(["a", "b", "cc"], [
    ("a", "a", "b", 10), ("q", "b", "a", -10), ("rr", "cc", "cc", 0), ("s", "cc", "a", -FAR), ("t", "b", "cc", FAR),
])
TEXT = "a\nb\ncc\na: a > b 10\nq: b > a -10\nrr: cc > cc 0\ns: cc > a -1000000000\nt: b > cc 1000000000"


def slow_road(text):
    found = ROAD.fullmatch(text)
    if found is None or abs(int(found[4])) > FAR:
        return None
    return (found[1], found[2], found[3], int(found[4]))


def slow_book(text):
    """The page whose text it is, or None."""
    rows = text.split("\n") if text != "" else []
    places = list(itertools.takewhile(lambda row: ":" not in row, rows))
    roads = [slow_road(row) for row in rows[len(places):]]
    if None in roads or not all(re.fullmatch(r"[a-z]{1,8}", name) for name in places):
        return None
    page = (places, {name: (one, other, length) for name, one, other, length in roads})
    if not all(one in places and other in places for name, one, other, length in roads):
        return None
    if len(set(places)) != len(places) or len(places) > 20 or len(roads) > 60:
        return None
    return page if text_of_page(page) == text and plain_taut(net_of_page(page)) else None


def changed_once(text, signs):
    """The text with a sign left out, put in, exchanged for another, or two beside each other about."""
    for at in range(len(text) + 1):
        yield text[:at] + text[at + 1:]
        yield text[:at] + text[at + 1:at + 2] + text[at:at + 1] + text[at + 2:]
        for sign in signs:
            yield text[:at] + sign + text[at:]
            yield text[:at] + sign + text[at + 1:]


class Roads(unittest.TestCase):
    ROADS = [
        ("x", "a", "b", 5), ("a", "a", "a", 0), ("abcdefgh", "zzzzzzzz", "hgfedcba", -17), ("x", "a", "b", FAR),
        ("x", "a", "b", -FAR), ("q", "b", "c", 10), ("q", "b", "c", -1), ("q", "b", "c", 100200300),
    ]

    def test_written(self):
        self.assertEqual(show_road("x", "a", "b", 5), "x: a > b 5")
        self.assertEqual(show_road("abcdefgh", "zz", "a", -17), "abcdefgh: zz > a -17")
        self.assertEqual(show_road("a", "a", "a", 0), "a: a > a 0")
        self.assertEqual(show_road("x", "a", "b", -FAR), "x: a > b -1000000000")

    def test_whatever_is_handed_in_is_written(self):
        self.assertEqual(show_road("", "", "", 0), ":  >  0")
        self.assertEqual(show_road("A b", "9", "a\nb", FAR + 1), "A b: 9 > a\nb 1000000001")
        self.assertEqual(show_road("~", "{x}", ": ", -(10 ** 29)), "~: {x} > :  -" + str(10 ** 29))
        self.assertEqual(show_road("abcdefghi", " > ", "b", 10 ** 29), "abcdefghi:  >  > b " + str(10 ** 29))

    def test_read_back(self):
        for road in self.ROADS:
            told = read_road(show_road(*road))
            self.assertEqual(told, road)
            self.assertIs(type(told), tuple)
            self.assertIs(type(told[3]), int)

    def test_names_that_are_none(self):
        for name in NO_NAMES:
            refused(self, NoText, read_road, show_road(name, "a", "b", 1))
            refused(self, NoText, read_road, show_road("x", name, "b", 1))
            refused(self, NoText, read_road, show_road("x", "a", name, 1))

    def test_numbers_that_are_none(self):
        for number in [
            "", "-", "-0", "00", "01", "-01", "007", "+1", "1.", "1.0", "1e3", "0x1", "1_0", "--1", "- 1", "1 ", " 1", "1-",
            "a", "-a", "1a", "one", "None", "1\n", "\n1", "10 0", "1,000", "1" * 100, "-" + "9" * 100, "0" * 100,
            "1000000001", "-1000000001", "9999999999", "-9999999999", "10000000000", "999999999999999999", "0" + "1000000000",
            "9" * 5000, "-" + "9" * 5000,
        ]:
            refused(self, NoText, read_road, "x: a > b " + number)
            refused(self, NoText, read_book, "a\nb\nx: a > b " + number)
        for number in [0, 1, -1, 9, 10, -10, 999999999, FAR, -FAR]:
            self.assertEqual(read_road("x: a > b " + str(number)), ("x", "a", "b", number))

    def test_texts_that_are_no_roads(self):
        for text in [
            "", " ", "\n", "x", "x:", "x: ", "x: a", "x: a >", "x: a > ", "x: a > b", "x: a > b ", ": a > b 1", "x:  > b 1",
            "x: a >  1", "x : a > b 1", "x:a > b 1", "x: a>b 1", "x: a> b 1", "x: a >b 1", "x:  a > b 1", "x: a  > b 1",
            "x: a >  b 1", "x: a > b  1", "x: a > b 1 ", " x: a > b 1", "x: a > b 1\n", "\nx: a > b 1", "x: a < b 1",
            "x; a > b 1", "x: a > b > c 1", "x: y: a > b 1", "x: a > b 1 2", "x: a > b 1\ny: a > b 1", "x: a > b\t1", "x a b 1",
            "x: a > b 1;", "x: a b > 1", "X: a > b 1", "x: A > b 1", "x: a > B 1",
        ]:
            refused(self, NoText, read_road, text)

    def test_each_text_that_is_one_sign_off(self):
        for text in ("x: a > b -10", "ab: c > ab 0", "abcdefgh: a > b 1000000000"):
            for other in changed_once(text, SIGNS):
                road = slow_road(other)
                if road is None:
                    refused(self, NoText, read_road, other)
                else:
                    self.assertEqual(read_road(other), road)


class Books(unittest.TestCase):
    def check_read(self, text, page):
        book = read_book(text)
        self.assertIs(type(book), Book)
        self.assertEqual(deeds_in(book), ([], page, []))
        refused(self, NoDeed, book.back)
        refused(self, NoDeed, book.again)
        self.assertEqual(show_book(book), text)
        return book

    def test_written(self):
        self.assertEqual(show_book(BOOK), TEXT)
        self.assertEqual(show_book(Book()), "")
        self.assertEqual(show_book(book_of(["b", "a"], [])), "a\nb")
        self.assertEqual(show_book(book_of(["b"], [("z", "b", "b", 0), ("b", "b", "b", 7)])), "b\nb: b > b 7\nz: b > b 0")

    def test_read(self):
        check_book(self, self.check_read(TEXT, page_of(BOOK)), page_of(BOOK))
        self.check_read("", ([], {}))
        self.check_read("a", (["a"], {}))
        self.check_read("a\nb", (["a", "b"], {}))
        self.check_read("none", (["none"], {}))
        self.check_read("a\na: a > a 0", (["a"], {"a": ("a", "a", 0)}))

    def test_writing_is_no_deed(self):
        book = BOOK.twin()
        book.back()
        kept = deeds_in(book)
        show_book(book)
        self.assertEqual(deeds_in(book), kept)

    def test_what_was_taken_back_is_not_written(self):
        book = BOOK.twin()
        book.back()
        self.assertEqual(show_book(book), TEXT[:TEXT.rindex("\n")])
        book.again()
        self.assertEqual(show_book(book), TEXT)

    def test_a_book_that_was_read_is_kept_by_deeds(self):
        book = read_book(TEXT)
        book.length("rr", 3)
        book.away("b")
        self.assertEqual(show_book(book), "a\ncc\nrr: cc > cc 3\ns: cc > a -1000000000")
        book.back()
        book.back()
        self.assertEqual(show_book(book), TEXT)
        refused(self, NoDeed, book.back)
        book.again()
        self.assertEqual(book.ends("rr"), ("cc", "cc", 3))
        self.assertEqual(show_book(read_book(TEXT)), TEXT)

    def test_books_by_chance(self):
        dice = random.Random(19)
        for turn in range(60):
            count = dice.randint(1, 9)
            book = book_of_net(chance_taut_net(dice, count, dice.randint(0, 12), dice.choice([3, FAR // 4]), turn % 3))
            text = show_book(book)
            self.assertEqual(text, text_of_page(page_of(book)))
            self.check_read(text, page_of(book))
        for net in itertools.islice(small_taut_nets(), 0, None, 11):
            page = page_of(book_of_net(net))
            self.check_read(text_of_page(page), page)

    def test_at_the_bounds(self):
        for net in big_taut_nets():
            book = book_of_net(net)
            self.check_read(show_book(book), page_of(book))

    def test_each_text_that_is_one_sign_off(self):
        done = {True: 0, False: 0}
        for text in (TEXT, "", "a", "a\nb", "abcdefgh\nb\nx: b > b 0", "a\nb\nx: a > b 9\ny: b > a -9"):
            for other in changed_once(text, SIGNS if len(text) < 30 else " \nab:>-019xA~"):
                page = slow_book(other)
                done[page is None] += 1
                if page is None:
                    refused(self, NoText, read_book, other)
                else:
                    self.check_read(other, page)
        self.assertGreater(min(done.values()), 100)

    def test_rows_twice_left_out_or_about(self):
        rows = TEXT.split("\n")
        done = {True: 0, False: 0}
        for at in range(len(rows)):
            texts = [rows[:at] + rows[at + 1:], rows[:at] + [rows[at]] + rows[at:], rows + [rows[at]], [rows[at]] + rows]
            for to in range(len(rows)):
                about = list(rows)
                about[at], about[to] = about[to], about[at]
                texts.append(about)
            for text in map("\n".join, texts):
                page = slow_book(text)
                done[page is None] += 1
                if page is None:
                    refused(self, NoText, read_book, text)
                else:
                    self.check_read(text, page)
        self.assertGreater(min(done.values()), 5)

    def test_texts_that_are_no_books(self):
        for text in [
            # Line ends too many or too few, and blanks.
            "\n", "\n\n", "a\n", "\na", "a\n\nb", "a b", " a", "a ", TEXT + "\n", "\n" + TEXT, TEXT.replace("\n", "\n\n", 1),
            TEXT.replace("\n", " "), TEXT.replace("\n", "", 1), " ",
            # Names twice or not in order.
            "b\na", "a\na", "a\nb\na", "a\nx: a > a 1\nx: a > a 1", "a\nx: a > a 1\nx: a > a 2", "a\ny: a > a 1\nx: a > a 1",
            "ab\na", "a\nba: a > a 1\nb: a > a 1",
            # Places behind roads, or not there.
            "a\nx: a > a 1\nb", "x: a > a 1\na", "x: a > a 1", "a\nx: a > b 1", "a\nx: b > a 1", "a\nx: x > x 1", "a\nx: a > b 1\nb",
            # Rings below 0, and lengths beyond the bound.
            "a\nx: a > a -1", "a\nb\nx: a > b 9\ny: b > a -10", "a\nb\nx: a > b 1000000001", "a\nb\nx: a > b -1000000001",
            "a\nA", "a\nabcdefghi", "a\n1",
        ]:
            refused(self, NoText, read_book, text)

    def test_rings_of_0_and_just_below(self):
        places = [name_of(number) for number in range(20)]
        rows = [f"{name_of(at)}: {places[at]} > {places[at + 1]} {FAR if at % 2 else -FAR}" for at in range(18)]
        for last, taut in ((0, True), (-1, False)):
            text = "\n".join(places + rows + [f"x: at > aa {last}", "y: as > at 0"])
            if taut:
                self.assertEqual(show_book(read_book(text)), text)
            else:
                refused(self, NoText, read_book, text)

    def test_twenty_places_and_sixty_roads_and_one_more(self):
        places = [name_of(number) for number in range(30)]
        roads = [f"{name_of(number)}: aa > ab {number}" for number in range(70)]
        for many, more in itertools.product((2, 19, 20, 21, 30), (0, 59, 60, 61, 70)):
            text = "\n".join(places[:many] + roads[:more])
            if many <= 20 and more <= 60:
                self.assertEqual(show_book(read_book(text)), text)
            else:
                refused(self, NoText, read_book, text)

    def test_names_that_are_none(self):
        for name in NO_NAMES:
            for text in (f"{name}\nzz", f"a\n{name}", f"a\nb\n{name}: a > b 1", f"a\nx: {name} > a 1", f"a\nx: a > {name} 1"):
                if slow_book(text) is None:
                    refused(self, NoText, read_book, text)
                else:
                    self.check_read(text, slow_book(text))

    def test_long_texts(self):
        for text in ["a\n" * 5000, "\n" * 10000, "a" * 10000, "x: a > b 1\n" * 900, "-" * 10000, "a: " * 3000, " > " * 3000]:
            refused(self, NoText, read_book, text)
            refused(self, NoText, read_road, text)

    def test_two_readings_share_nothing(self):
        one, other = read_book(TEXT), read_book(TEXT)
        one.away("a")
        self.assertEqual(show_book(other), TEXT)
        refused(self, NoDeed, other.back)


if __name__ == "__main__":
    unittest.main()
