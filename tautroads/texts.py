"""Texts: roads and books written down, and read back."""

from tautroads.books import Book, check_page, is_name
from tautroads.errors import Full, NoText, Ring
from tautroads.nets import MOST_LENGTH

# No number that is read may be longer; this also keeps far too long ones from being made numbers at all.
MOST_FIGURES = 12


def is_whole(text):
    """Tell whether the text is a whole number of at most 12 figures, just as it is written."""
    figures = text.removeprefix("-")
    if not figures.isdecimal() or len(figures) > MOST_FIGURES:
        return False
    return str(int(text)) == text


def show_road(name, one, other, length):
    return f"{name}: {one} > {other} {length}"


def show_book(book):
    places, roads = book.page
    rows = [show_road(name, one, other, length) for name, one, other, length in roads]
    return "\n".join([*places, *rows])


def read_road(text):
    """Tell the road (name, one, other, length) whose text it is; refuse NoText."""
    name, colon, ends = text.partition(": ")
    one, sign, rest = ends.partition(" > ")
    other, blank, number = rest.partition(" ")
    # Where a part between is left out, what should stand behind it is empty, so no name and no number.
    if not is_name(name) or not is_name(one) or not is_name(other) or not is_whole(number):
        raise NoText("the text is that of no road")
    length = int(number)
    if not -MOST_LENGTH <= length <= MOST_LENGTH:
        raise NoText("the road's length is too far from 0")
    return (name, one, other, length)


def read_page(text):
    """Tell the rows of a text as places and roads; refuse NoText where a row is neither, or a place is behind roads."""
    rows = text.split("\n") if text else []
    places = [row for row in rows if is_name(row)]
    # A place behind a road pushes itself or another place in among these, and that is no road's text.
    roads = [read_road(row) for row in rows[len(places):]]
    return (tuple(places), tuple(roads))


def check_names(names):
    """Refuse names of which one stands twice or out of order."""
    if names != sorted(set(names)):
        raise NoText("a name stands twice or out of order")


def read_book(text):
    """Tell the book whose text it is, with no deeds to take back or to do again; refuse NoText."""
    page = read_page(text)
    places, roads = page
    check_names(list(places))
    check_names([row[0] for row in roads])
    if not all([one in places and other in places for name, one, other, length in roads]):
        raise NoText("a road leads from or to a place that isn't there")
    try:
        check_page(page)
    except (Full, Ring):
        raise NoText("the text has too many places or roads, or a ring of length below 0") from None
    book = Book()
    book.page = page
    return book
