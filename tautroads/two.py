"""Two books: where their least lengths are unlike, and the ring that pouring one into the other would close."""

from tautroads.errors import Full, Ring, Twice
from tautroads.tables import table


def lengths_between(book):
    """Tell the least length, None for no way, of each pair of names of places, the pairs in order."""
    names = book.places()
    rows = table(book.net())
    return {(one, other): length for one, row in zip(names, rows) for other, length in zip(names, row)}


def unlike(one, other):
    """Tell (place, place, length, length) for each pair that both books have and whose least lengths are unlike."""
    here = lengths_between(one)
    there = lengths_between(other)
    return [(*pair, here[pair], there[pair]) for pair in here if pair in there and here[pair] != there[pair]]


def clash(one, other):
    """Tell the ring of names with which pouring the other book into the one is refused, or None."""
    # A twin is poured into in its place, so that neither book is changed.
    trial = one.twin()
    try:
        trial.pour(other)
    except Ring as refusal:
        return refusal.ring
    except (Twice, Full):
        return None
    return None
