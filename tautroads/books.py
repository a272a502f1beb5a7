"""Books: places and roads by names, kept by deeds that can be taken back and done again."""

from tautroads.errors import Full, NoDeed, NoLength, NoName, NoPlace, NoRoad, Ring, Twice
from tautroads.falls import fall as net_fall
from tautroads.heights import heights as net_heights
from tautroads.least import least as net_least
from tautroads.nets import MOST_LENGTH, MOST_PLACES, MOST_ROADS, way_length
from tautroads.shut import by as net_by, needed as net_needed, tight as net_tight, without as net_without
from tautroads.tables import window as net_window

# What stands in a book is its page, a tuple (PLACES, ROADS): the places' names in order, and tuples
# (NAME, ONE, OTHER, LENGTH) in order of their names. All of it is tuples, which nobody can change: so deeds
# that were taken back, twins and books poured into others may hold the same page.
EMPTY = ((), ())
LETTERS = "abcdefghijklmnopqrstuvwxyz"
MOST_LETTERS = 8


def is_name(text):
    return 1 <= len(text) <= MOST_LETTERS and all([sign in LETTERS for sign in text])


def check_name(text):
    if not is_name(text):
        raise NoName(f"a name has 1 to {MOST_LETTERS} letters a to z")


def check_length(number):
    if not -MOST_LENGTH <= number <= MOST_LENGTH:
        raise NoLength(f"a road's length is at most {MOST_LENGTH} either way")


def road_names(page):
    return [row[0] for row in page[1]]


def place_number(page, name):
    """Tell the place's number in the page's net; refuse NoPlace."""
    if name not in page[0]:
        raise NoPlace("the book has no place of this name")
    return page[0].index(name)


def road_number(page, name):
    """Tell the road's number in the page's net; refuse NoRoad."""
    names = road_names(page)
    if name not in names:
        raise NoRoad("the book has no road of this name")
    return names.index(name)


def net_of(page):
    places, roads = page
    numbers = {name: number for number, name in enumerate(places)}
    return (len(places), [(numbers[one], numbers[other], length) for name, one, other, length in roads])


def page_with(page, places, roads):
    """Tell the page with these places and roads more."""
    return (tuple(sorted([*page[0], *places])), tuple(sorted([*page[1], *roads])))


def page_without_road(page, name):
    return (page[0], tuple([row for row in page[1] if row[0] != name]))


def page_without_place(page, name):
    places = tuple([place for place in page[0] if place != name])
    return (places, tuple([row for row in page[1] if name not in row[1:3]]))


def check_page(page):
    """Refuse Full where there are too many places or roads, then Ring where a ring is below 0."""
    places, roads = page
    if len(places) > MOST_PLACES or len(roads) > MOST_ROADS:
        raise Full(f"a book has at most {MOST_PLACES} places and {MOST_ROADS} roads")
    kind, told = net_heights(net_of(page))
    if kind == "ring":
        raise Ring("there would be a ring of length below 0", [roads[number][0] for number in told])


class Book:
    """Places and roads by names; no ring of its roads is below 0."""

    def __init__(self):
        self.page = EMPTY
        # The pages ahead of each deed that was done, and behind each that was taken back, the last one last.
        self.done = []
        self.undone = []

    def lay(self, page):
        """Let the page be the book's from now on, as one deed; refuse Full, then Ring."""
        check_page(page)
        self.done.append(self.page)
        self.undone = []
        self.page = page

    def place(self, name):
        """Refuse NoName, Twice, then Full."""
        check_name(name)
        if name in self.page[0]:
            raise Twice("the book has a place of this name")
        self.lay(page_with(self.page, [name], []))

    def road(self, name, one, other, length):
        """Refuse NoName, Twice, NoPlace, NoLength, Full, then Ring."""
        check_name(name)
        if name in road_names(self.page):
            raise Twice("the book has a road of this name")
        place_number(self.page, one)
        place_number(self.page, other)
        check_length(length)
        self.lay(page_with(self.page, [], [(name, one, other, length)]))

    def away(self, name):
        """Take the place out, with all roads that begin or end there; refuse NoPlace."""
        place_number(self.page, name)
        self.lay(page_without_place(self.page, name))

    def out(self, name):
        """Take the road out; refuse NoRoad."""
        road_number(self.page, name)
        self.lay(page_without_road(self.page, name))

    def length(self, name, number):
        """Give the road this length; refuse NoRoad, NoLength, then Ring."""
        one, other, old = self.ends(name)
        check_length(number)
        self.lay(page_with(page_without_road(self.page, name), [], [(name, one, other, number)]))

    def turn(self, name):
        """Let the road lead the other way; refuse NoRoad, then Ring."""
        one, other, number = self.ends(name)
        self.lay(page_with(page_without_road(self.page, name), [], [(name, other, one, number)]))

    def pour(self, book):
        """Take in all places that aren't there yet, and all roads, of a book; refuse Twice, Full, then Ring."""
        places, roads = book.page
        names = road_names(self.page)
        if any([row[0] in names for row in roads]):
            raise Twice("both books have a road of the same name")
        self.lay(page_with(self.page, [name for name in places if name not in self.page[0]], roads))

    def back(self):
        """Take the last deed back; refuse NoDeed."""
        if not self.done:
            raise NoDeed("there is no deed to take back")
        self.undone.append(self.page)
        self.page = self.done.pop()

    def again(self):
        """Do the last deed again that was taken back; refuse NoDeed."""
        if not self.undone:
            raise NoDeed("there is no deed to do again")
        self.done.append(self.page)
        self.page = self.undone.pop()

    def places(self):
        return list(self.page[0])

    def roads(self):
        return road_names(self.page)

    def ends(self, name):
        """Tell (one, other, length) of a road; refuse NoRoad."""
        return self.page[1][road_number(self.page, name)][1:]

    def net(self):
        """Tell the net of the places and the roads, both numbered as their names in order."""
        return net_of(self.page)

    def heights(self):
        """Tell a list of tuples (place, height), in order."""
        return list(zip(self.page[0], net_heights(self.net())[1]))

    def least(self, one, other):
        """Tell ("way", roads, length), or ("none", places) where no way leads; refuse NoPlace."""
        net = self.net()
        told = net_least(net, place_number(self.page, one), place_number(self.page, other))
        if told[0] == "none":
            return ("none", [self.page[0][number] for number in told[1]])
        return ("way", self.named(told[1]), way_length(net, told[1]))

    def window(self, one, other):
        """Tell (LEAST, MOST), None for no bound; refuse NoPlace."""
        return net_window(self.net(), place_number(self.page, one), place_number(self.page, other))

    def fall(self, name):
        """Tell how far the road may fall, None where it is free; refuse NoRoad."""
        told = net_fall(self.net(), road_number(self.page, name))
        return None if told[0] == "free" else told[1]

    def by(self, one, other, name):
        """Tell the length of the least way by the road, or None; refuse NoPlace, then NoRoad."""
        start, end = place_number(self.page, one), place_number(self.page, other)
        told = net_by(self.net(), start, end, road_number(self.page, name))
        return None if told is None else told[0]

    def without(self, one, other, name):
        """Tell the length of the least way without the road, or None; refuse NoPlace, then NoRoad."""
        net = self.net()
        start, end = place_number(self.page, one), place_number(self.page, other)
        told = net_without(net, start, end, road_number(self.page, name))
        return None if told[0] == "none" else way_length(net, told[1])

    def tight(self, one, other):
        """Tell the roads by which some least way goes, in order; refuse NoPlace."""
        return self.named(net_tight(self.net(), place_number(self.page, one), place_number(self.page, other)))

    def needed(self, one, other):
        """Tell the roads by which every least way goes, in order; refuse NoPlace."""
        return self.named(net_needed(self.net(), place_number(self.page, one), place_number(self.page, other)))

    def named(self, numbers):
        """Tell the names of the roads that have these numbers in the book's net."""
        return [self.page[1][number][0] for number in numbers]

    def twin(self):
        """Tell another book that is alike, with its deeds, also those taken back."""
        book = Book()
        book.page = self.page
        book.done = list(self.done)
        book.undone = list(self.undone)
        return book
