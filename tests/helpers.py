"""Nets and books for the tests, and plain slow searches and a plain book that the program is compared with."""

import itertools
import random
import string

from tautroads.books import Book
from tautroads.errors import Full, NoDeed, NoLength, NoName, NoPlace, NoRoad, Ring, RoadError, Twice

FAR = 10 ** 9

# The empty text, nine letters, great letters, figures, blanks, line ends, and the signs just beside a and z.
NO_NAMES = [
    "", "abcdefghi", "aaaaaaaaaaaaaaaaaaaaaaaa", "A", "Z", "aB", "Abc", "abcdefgH", "1", "0", "a1", "1a", "-1", " ", "a ",
    " a", "a b", "\n", "a\n", "\na", "a\nb", "`", "{", "a{", "`a", "a-b", "a_b", "a:", "a > b", "~", "!",
]

# Each is just beyond one bound of point 4, or far beyond it.
BAD_NETS = [
    (-1, []),
    (21, []),
    (-(10 ** 29), []),
    (10 ** 29, []),
    (0, [(0, 0, 0)]),
    (1, [(0, 1, 0)]),
    (2, [(0, 1, 1)] * 61),
    (2, [(0, 1, 1)] * 200),
    (2, [(-1, 0, 0)]),
    (2, [(0, -1, 0)]),
    (2, [(2, 0, 0)]),
    (2, [(0, 2, 0)]),
    (20, [(20, 0, 0)]),
    (20, [(0, 20, 0)]),
    (2, [(10 ** 29, 0, 0)]),
    (2, [(0, -(10 ** 29), 0)]),
    (2, [(0, 1, FAR + 1)]),
    (2, [(0, 1, -FAR - 1)]),
    (2, [(0, 1, 10 ** 29)]),
    (2, [(0, 0, -1), (0, 1, FAR + 1)]),
    (2, [(0, 1, 0)] * 59 + [(1, 2, 0)]),
    (2, [(0, 1, 0)] * 59 + [(1, 0, -FAR - 1)]),
]


def roads_on(count, lengths):
    """Every road there can be between so many places, of one of these lengths."""
    return list(itertools.product(range(count), range(count), lengths))


def all_tiny_nets():
    """Every net of up to two places and two roads with lengths -1, 0 and 1, and some of three of each."""
    for count in (0, 1, 2):
        for many in (0, 1, 2):
            for roads in itertools.product(roads_on(count, (-1, 0, 1)), repeat=many):
                yield (count, list(roads))
    triples = itertools.product(roads_on(3, (-1, 1)), repeat=3)
    for roads in itertools.islice(triples, 0, None, 7):
        yield (3, list(roads))


def chance_net(dice):
    count = dice.randint(1, 5)
    roads = []
    for turn in range(dice.randint(0, 8)):
        roads.append((dice.randrange(count), dice.randrange(count), dice.randint(-3, 6)))
    return (count, roads)


def chance_taut_net(dice, count, many, steep, slack):
    """A net that some heights up to steep show to be taut; slack 0 gives rings of length 0."""
    levels = [dice.randint(-steep, steep) for place in range(count)]
    roads = []
    for turn in range(many):
        start, end = dice.randrange(count), dice.randrange(count)
        roads.append((start, end, levels[end] - levels[start] + dice.randint(0, slack)))
    return (count, roads)


def small_nets():
    """Many small nets, taut and not; the same ones in each run."""
    yield from all_tiny_nets()
    dice = random.Random(20)
    for turn in range(400):
        yield chance_net(dice)
    for turn in range(400):
        count = dice.randint(2, 5)
        net = chance_taut_net(dice, count, dice.randint(1, 8), 4, turn % 3)
        yield net
        yield one_shorter(net, dice.randrange(len(net[1])))


def fallen(net, number, much):
    """The net with one road's length so much less."""
    count, roads = net
    start, end, length = roads[number]
    return (count, roads[:number] + [(start, end, length - much)] + roads[number + 1:])


def one_shorter(net, number):
    """The net with one road's length 1 less: a ring of just 0 by it becomes one of 1 below."""
    return fallen(net, number, 1)


def net_without(net, number):
    return (net[0], net[1][:number] + net[1][number + 1:])


def chain(count, length):
    return (count, [(place, place + 1, length) for place in range(count - 1)])


def braid(length):
    """20 places in a row, each step by three roads: 3 ** 19 ways, too many to try one by one."""
    roads = []
    for place in range(19):
        roads.extend([(place, place + 1, length), (place, place + 1, length), (place, place + 1, length - 1)])
    return (20, roads + [(5, 5, 0), (19, 19, 1), (0, 0, 7)])


def whole_ring(last):
    """A ring by all 20 places with lengths as far from 0 as they may be, which comes to last."""
    roads = [(place, place + 1, FAR if place % 2 else -FAR) for place in range(18)]
    return (20, [(19, 0, last)] + roads[::-1] + [(18, 19, 0)])


NOT_TAUT = [
    (1, [(0, 0, -1)]),
    (2, [(0, 1, 1), (1, 0, -2)]),
    # The ring can't be come to, or nothing leads from it, or it is alone.
    (3, [(0, 1, 1), (2, 2, -1), (2, 0, 5)]),
    (3, [(0, 1, 1), (1, 2, 3), (2, 2, -1)]),
    (4, [(0, 1, 1), (2, 3, FAR), (3, 2, -FAR), (3, 2, -FAR), (2, 3, FAR - 1)]),
    whole_ring(-1),
    (20, [(18, 19, FAR), (19, 18, -FAR), (19, 19, -1)]),
]


def big_taut_nets():
    dice = random.Random(60)
    yield (20, [])
    yield chain(20, FAR)
    yield chain(20, -FAR)
    yield braid(FAR)
    yield braid(-FAR + 1)
    yield whole_ring(0)
    for slack in (0, 1, 1000, 10 ** 8):
        yield chance_taut_net(dice, 20, 60, 4 * 10 ** 8, slack)
        yield chance_taut_net(dice, 20, 30, 4 * 10 ** 8, slack)


def middling_taut_nets():
    """Nets of each number of places, with more roads than a slow search can go."""
    dice = random.Random(9)
    for count in range(1, 21):
        for many in (count // 2, count, 2 * count, 3 * count):
            for slack in (0, 3, 50):
                yield chance_taut_net(dice, count, many, 9, slack)


def small_taut_nets():
    for net in small_nets():
        if slow_taut(net):
            yield net


def slow_ways(net, one, most):
    """Every way of at most so many roads that begins at one, as tuples (end, length, way)."""
    rows = [(one, 0, [])]
    told = list(rows)
    for turn in range(most):
        rows = [
            (end, length + more, way + [number])
            for at, length, way in rows
            for number, (start, end, more) in enumerate(net[1])
            if start == at
        ]
        told.extend(rows)
    return told


def slow_taut(net):
    """A ring below 0 has one below 0 in it that comes to no place twice, so of at most COUNT roads."""
    count = net[0]
    for one in range(count):
        if any(end == one and length < 0 for end, length, way in slow_ways(net, one, count)):
            return False
    return True


def slow_least(net, one):
    """The least length of a way from one to each place that can be come to, in a taut net."""
    best = {}
    for end, length, way in slow_ways(net, one, net[0]):
        best[end] = min(length, best.get(end, length))
    return best


def slow_heights(net):
    """The least length of any way that ends at each place, in a taut net."""
    tables = [slow_least(net, one) for one in range(net[0])]
    return [min(row[place] for row in tables if place in row) for place in range(net[0])]


def plain_table(net):
    """The least length from each place to each, None for no way, in a taut net: each place may lie between."""
    count, roads = net
    rows = [[0 if one == other else None for other in range(count)] for one in range(count)]
    for start, end, length in roads:
        if rows[start][end] is None or length < rows[start][end]:
            rows[start][end] = length
    for between, one, other in itertools.product(range(count), repeat=3):
        ahead, behind = rows[one][between], rows[between][other]
        if ahead is not None and behind is not None:
            if rows[one][other] is None or ahead + behind < rows[one][other]:
                rows[one][other] = ahead + behind
    return rows


def plain_taut(net):
    """A ring below 0 makes a place of it less than 0 far from itself."""
    return all(row[place] == 0 for place, row in enumerate(plain_table(net)))


def reached_by(net, one):
    """The places come to from one, by adding the ends of roads until none is new."""
    lot = {one}
    for turn in range(net[0]):
        lot |= {end for start, end, length in net[1] if start in lot}
    return sorted(lot)


def begins_nowhere_twice(net, way):
    begins = [net[1][number][0] for number in way]
    return len(begins) == len(set(begins))


def ends_of(net, way):
    """Where a list of roads begins and ends; it fails where one does not begin where the last ended."""
    roads = [net[1][number] for number in way]
    for ahead, behind in zip(roads, roads[1:]):
        assert ahead[1] == behind[0], (net, way)
    return roads[0][0], roads[-1][1]


def sum_of(net, way):
    return sum(net[1][number][2] for number in way)


def broken_roads(net, told):
    """The roads that rise by more than their length along these heights."""
    return [road for road in net[1] if told[road[1]] > told[road[0]] + road[2]]


def refused(case, kind, call, *told):
    """Check that the call is refused with an error of just this class."""
    with case.assertRaises(kind) as caught:
        call(*told)
    case.assertIs(type(caught.exception), kind)


def name_of(number):
    """Names of two letters, in order as the numbers are."""
    return string.ascii_lowercase[number // 26] + string.ascii_lowercase[number % 26]


def book_of(places, roads):
    """A book made by deeds of places' names and of tuples (name, one, other, length)."""
    book = Book()
    for name in places:
        book.place(name)
    for road in roads:
        book.road(*road)
    return book


def book_of_net(net):
    count, roads = net
    rows = [(name_of(at), name_of(one), name_of(other), length) for at, (one, other, length) in enumerate(roads)]
    return book_of([name_of(place) for place in range(count)], rows)


def page_of(book):
    """What stands in a book: its places' names, and a dict of its roads."""
    return (book.places(), {name: book.ends(name) for name in book.roads()})


def book_anew(page):
    """A book that was never anything but this page, its names put in the other way about."""
    places, roads = page
    return book_of(sorted(places, reverse=True), [(name, *roads[name]) for name in sorted(roads, reverse=True)])


def net_of_page(page):
    places, roads = page
    numbers = {name: number for number, name in enumerate(sorted(places))}
    rows = [roads[name] for name in sorted(roads)]
    return (len(places), [(numbers[one], numbers[other], length) for one, other, length in rows])


def text_of_page(page):
    places, roads = page
    rows = sorted(places)
    for name in sorted(roads):
        one, other, length = roads[name]
        rows.append(name + ": " + one + " > " + other + " " + str(length))
    return "\n".join(rows)


def walk(book, step):
    """Take all steps that are not refused, and tell the page behind each."""
    pages = []
    # No test does as many deeds; so this ends also where a step never comes to its end.
    for turn in range(3000):
        try:
            step()
        except NoDeed:
            return pages
        pages.append(page_of(book))
    raise AssertionError("there is no end of the steps")


def deeds_in(book):
    """The pages that back comes to, the page that stands, and the pages that again comes to; the book stays."""
    here = page_of(book)
    behind = walk(book, book.back)
    ahead = walk(book, book.again)
    for turn in ahead[len(behind):]:
        book.back()
    assert page_of(book) == here
    assert ahead[:len(behind)] == (behind[::-1] + [here])[1:]
    return (behind, here, ahead[len(behind):])


def added(*lengths):
    return None if None in lengths else sum(lengths)


def plain_answers(page):
    """All that is told of a book but its least ways, by plain tables, as a dict of what is asked."""
    places, roads, net = sorted(page[0]), sorted(page[1]), net_of_page(page)
    rows = plain_table(net)
    less = [plain_table(net_without(net, at)) for at in range(len(roads))]
    told = {("places",): places, ("roads",): roads, ("net",): net}
    told["heights",] = [(name, min(row[at] for row in rows if row[at] is not None)) for at, name in enumerate(places)]
    for name, (start, end, length) in zip(roads, net[1]):
        told["ends", name] = page[1][name]
        told["fall", name] = added(length, rows[end][start])
    for (at, one), (to, other) in itertools.product(enumerate(places), repeat=2):
        best = rows[at][to]
        told["window", one, other] = (None if rows[to][at] is None else -rows[to][at], best)
        tight, needed = [], []
        for number, (name, (start, end, length)) in enumerate(zip(roads, net[1])):
            through = told["by", one, other, name] = added(rows[at][start], length, rows[end][to])
            around = told["without", one, other, name] = less[number][at][to]
            tight += [name] if best is not None and through == best else []
            needed += [name] if around != best else []
        told["tight", one, other], told["needed", one, other] = tight, needed
    return told


def check_least(case, page, told, one, other, best):
    """Check what a book tells as the least way from one place to another, best being its length."""
    places, roads, net = sorted(page[0]), page[1], net_of_page(page)
    case.assertIs(type(told), tuple)
    if best is None:
        case.assertEqual(told, ("none", [places[number] for number in reached_by(net, places.index(one))]))
        return
    kind, names, length = told
    case.assertEqual(kind, "way")
    case.assertIs(type(names), list)
    case.assertEqual(length, best)
    way = [sorted(roads).index(name) for name in names]
    ends = ends_of(net, way) if way else (places.index(one), places.index(one))
    case.assertEqual(ends, (places.index(one), places.index(other)))
    case.assertTrue(begins_nowhere_twice(net, way))
    case.assertEqual(sum_of(net, way), length)


def check_book(case, book, page, step=1):
    """Check that a book tells what it should, where this stands in it; only every so manieth question is asked."""
    for (ask, *told), answer in itertools.islice(plain_answers(page).items(), 0, None, step):
        case.assertEqual(getattr(book, ask)(*told), answer, (ask, told, page))
        if ask == "window":
            check_least(case, page, book.least(*told), *told, answer[1])


def check_ring(case, names, roads):
    """Check that the names are those of a ring below 0 of these roads, as a refusal tells it."""
    case.assertIs(type(names), list)
    case.assertGreater(len(names), 0)
    ring = [roads[name] for name in names]
    for at, road in enumerate(ring):
        case.assertEqual(ring[at - 1][1], road[0], (names, roads))
    case.assertEqual(len({road[0] for road in ring}), len(ring), (names, roads))
    case.assertLess(sum(road[2] for road in ring), 0, (names, roads))


class PlainBook:
    """A book kept plainly: the pages of all deeds, whole. It tells the class of a refusal in the place of raising it."""

    def __init__(self):
        self.pages = [([], {})]
        self.at = 0
        # The page that the last deed would have led to; a ring that is told is one of it.
        self.would = None

    def page(self):
        return self.pages[self.at]

    def do(self, deed, *told):
        if deed in ("back", "again"):
            return self.move(-1 if deed == "back" else 1)
        places, roads = list(self.page()[0]), dict(self.page()[1])
        wrong = getattr(self, deed)(places, roads, *told)
        if wrong is not None:
            return wrong
        self.would = (sorted(places), roads)
        if len(places) > 20 or len(roads) > 60:
            return Full
        if not plain_taut(net_of_page(self.would)):
            return Ring
        self.pages = self.pages[:self.at + 1] + [self.would]
        self.at += 1
        return None

    def move(self, step):
        if not 0 <= self.at + step < len(self.pages):
            return NoDeed
        self.at += step
        return None

    def place(self, places, roads, name):
        if name in NO_NAMES:
            return NoName
        if name in places:
            return Twice
        places.append(name)

    def road(self, places, roads, name, one, other, length):
        if name in NO_NAMES:
            return NoName
        if name in roads:
            return Twice
        if one not in places or other not in places:
            return NoPlace
        if abs(length) > FAR:
            return NoLength
        roads[name] = (one, other, length)

    def away(self, places, roads, name):
        if name not in places:
            return NoPlace
        places.remove(name)
        for road in [road for road in roads if name in roads[road][:2]]:
            del roads[road]

    def out(self, places, roads, name):
        if name not in roads:
            return NoRoad
        del roads[name]

    def length(self, places, roads, name, number):
        if name not in roads:
            return NoRoad
        if abs(number) > FAR:
            return NoLength
        roads[name] = (roads[name][0], roads[name][1], number)

    def turn(self, places, roads, name):
        if name not in roads:
            return NoRoad
        one, other, number = roads[name]
        roads[name] = (other, one, number)

    def pour(self, places, roads, book):
        if set(roads) & set(book.page()[1]):
            return Twice
        places += [name for name in book.page()[0] if name not in places]
        roads.update(book.page()[1])

    def twin(self):
        book = PlainBook()
        book.pages, book.at = list(self.pages), self.at
        return book


def refusal_of(call, *told):
    """The refusal that a call raises, or None."""
    try:
        call(*told)
    except RoadError as error:
        return error
    return None


def lists_in(told):
    if isinstance(told, tuple):
        return [inner for part in told for inner in lists_in(part)]
    if isinstance(told, list):
        return [told] + [inner for part in told for inner in lists_in(part)]
    return []


def spoil(told):
    for inner in lists_in(told):
        inner.reverse()
        inner.append(17)
        inner[0] = -99
