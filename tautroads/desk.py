"""A desk: books by names, one of them in use, asked and changed by lines."""

from tautroads.books import Book, check_name
from tautroads.errors import Full, NoBook, NoLine
from tautroads.texts import is_whole, show_book
from tautroads.two import unlike

MOST_BOOKS = 20

# What follows each first word: a letter a for a word that stands as a name, 0 for a whole number.
SHAPES = {
    "use": "a", "twin": "a", "pour": "a", "books": "", "unlike": "a",
    "place": "a", "road": "aaa0", "away": "a", "out": "a", "length": "a0", "turn": "a", "back": "", "again": "",
    "places": "", "roads": "", "ends": "a", "text": "", "heights": "", "least": "aa", "window": "aa", "fall": "a",
    "by": "aaa", "without": "aaa", "tight": "aa", "needed": "aa",
}


def check_line(words):
    """Refuse NoLine for words that are no line of a desk."""
    shape = SHAPES.get(words[0])
    # A blank at an end, or two together, have an empty word beside them.
    if shape is None or "" in words or len(words) != len(shape) + 1:
        raise NoLine("a desk knows no such line")
    for sign, word in zip(shape, words[1:]):
        if sign == "0" and not is_whole(word):
            raise NoLine("a word is no whole number of at most 12 figures")


def show_number(number):
    return "none" if number is None else str(number)


def show_names(names):
    return " ".join(names) if names else "none"


def show_rows(rows):
    return "; ".join(rows) if rows else "none"


def book_named(desk, name):
    if name not in desk.shelf:
        raise NoBook("the desk has no book of this name")
    return desk.shelf[name]


def check_room(desk, name):
    """Refuse a name for a book that is none, then one more book than there may be."""
    check_name(name)
    if name not in desk.shelf and len(desk.shelf) >= MOST_BOOKS:
        raise Full(f"a desk has at most {MOST_BOOKS} books")


def use_book(desk, words):
    name = words[0]
    check_room(desk, name)
    if name not in desk.shelf:
        desk.shelf[name] = Book()
    desk.used = name
    return "ok"


def twin_book(desk, words):
    name = words[0]
    check_room(desk, name)
    if name != desk.used:
        desk.shelf[name] = desk.shelf[desk.used].twin()
    return "ok"


def pour_book(desk, words):
    other = book_named(desk, words[0])
    desk.shelf[desk.used].pour(other)
    return "ok"


def tell_books(desk, words):
    return " ".join(sorted(desk.shelf))


def tell_unlike(desk, words):
    pairs = unlike(desk.shelf[desk.used], book_named(desk, words[0]))
    return show_rows([
        f"{one} {other} {show_number(here)} {show_number(there)}" for one, other, here, there in pairs
    ])


def add_place(book, words):
    book.place(words[0])
    return "ok"


def add_road(book, words):
    name, one, other, number = words
    book.road(name, one, other, int(number))
    return "ok"


def take_place_away(book, words):
    book.away(words[0])
    return "ok"


def take_road_out(book, words):
    book.out(words[0])
    return "ok"


def set_length(book, words):
    book.length(words[0], int(words[1]))
    return "ok"


def turn_road(book, words):
    book.turn(words[0])
    return "ok"


def take_back(book, words):
    book.back()
    return "ok"


def do_again(book, words):
    book.again()
    return "ok"


def tell_places(book, words):
    return show_names(book.places())


def tell_roads(book, words):
    return show_names(book.roads())


def tell_ends(book, words):
    one, other, length = book.ends(words[0])
    return f"{one} {other} {length}"


def tell_text(book, words):
    text = show_book(book)
    return text if text else "none"


def tell_heights(book, words):
    return show_rows([f"{place} {height}" for place, height in book.heights()])


def tell_least(book, words):
    told = book.least(words[0], words[1])
    if told[0] == "none":
        return "none"
    return " ".join([str(told[2]), *told[1]])


def tell_window(book, words):
    low, high = book.window(words[0], words[1])
    return f"{show_number(low)} {show_number(high)}"


def tell_fall(book, words):
    number = book.fall(words[0])
    return "free" if number is None else str(number)


def tell_by(book, words):
    return show_number(book.by(words[0], words[1], words[2]))


def tell_without(book, words):
    return show_number(book.without(words[0], words[1], words[2]))


def tell_tight(book, words):
    return show_names(book.tight(words[0], words[1]))


def tell_needed(book, words):
    return show_names(book.needed(words[0], words[1]))


# Both are handed the words behind the first one: the first ones with the desk, the others with the book in use.
DESK_LINES = {
    "use": use_book, "twin": twin_book, "pour": pour_book, "books": tell_books, "unlike": tell_unlike,
}
BOOK_LINES = {
    "place": add_place, "road": add_road, "away": take_place_away, "out": take_road_out, "length": set_length,
    "turn": turn_road, "back": take_back, "again": do_again,
    "places": tell_places, "roads": tell_roads, "ends": tell_ends, "text": tell_text, "heights": tell_heights,
    "least": tell_least, "window": tell_window, "fall": tell_fall, "by": tell_by, "without": tell_without,
    "tight": tell_tight, "needed": tell_needed,
}


class Desk:
    """Books by names, at first an empty one, a, which is in use."""

    def __init__(self):
        self.shelf = {"a": Book()}
        self.used = "a"

    def say(self, line):
        """Do or tell what the line says; refuse NoLine first of all."""
        words = line.split(" ")
        check_line(words)
        if words[0] in DESK_LINES:
            desk_action = DESK_LINES[words[0]]
            return desk_action(self, words[1:])
        book_action = BOOK_LINES[words[0]]
        return book_action(self.shelf[self.used], words[1:])
