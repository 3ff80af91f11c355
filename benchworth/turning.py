"""Books and papers turned about, moved, stretched, dearer."""

from benchworth.books import is_stretch
from benchworth.errors import NoTurn
from benchworth.names import is_whole, is_whole_within
from benchworth.papers import is_paper

GREATEST_FACTOR = 10 ** 6


def look_at_number(by):
    """Tells None of a whole number; anything else is refused with NoTurn."""
    if not is_whole(by):
        raise NoTurn("no whole number to move by")


def look_at_factor(factor):
    """Tells None of a factor; anything else is refused with NoTurn."""
    if not is_whole_within(factor, 1, GREATEST_FACTOR):
        raise NoTurn("no factor from 1 to a million")


def as_book(stretches):
    """The stretches, names as those of a book, where all are such; else NoTurn."""
    if not all(is_stretch(stretch) for stretch in stretches):
        raise NoTurn("what would come of it is no book")
    return stretches


def as_paper(prices):
    """The prices, where they are a paper; else NoTurn."""
    if not is_paper(prices):
        raise NoTurn("what would come of it is no paper")
    return prices


def turned(book):
    """The book turned about: begins become ends."""
    return [(name, -end, -begin, worth) for name, begin, end, worth in book]


def turned_paper(paper):
    """The paper turned about."""
    # A stretch is over its begin but not over its end: so a moment goes one beyond its own opposite.
    return [(-moment - 1, price) for moment, price in paper[::-1]]


def moved(book, by):
    """The book with each begin and end so much more; or NoTurn."""
    look_at_number(by)
    return as_book([(name, begin + by, end + by, worth) for name, begin, end, worth in book])


def moved_paper(paper, by):
    """The paper with each moment so much more; or NoTurn."""
    look_at_number(by)
    return as_paper([(moment + by, price) for moment, price in paper])


def stretched(book, factor):
    """The book with each begin and end so many times as much; or NoTurn."""
    look_at_factor(factor)
    return as_book([(name, begin * factor, end * factor, worth) for name, begin, end, worth in book])


def stretched_paper(paper, factor):
    """The paper with each moment so many times as much; or NoTurn."""
    look_at_factor(factor)
    return as_paper([(moment * factor, price) for moment, price in paper])


def dearer(book, factor):
    """The book with each worth so many times as much; or NoTurn."""
    look_at_factor(factor)
    return as_book([(name, begin, end, worth * factor) for name, begin, end, worth in book])


def dearer_paper(paper, factor):
    """The paper with each price so many times as much; or NoTurn."""
    look_at_factor(factor)
    return as_paper([(moment, price * factor) for moment, price in paper])
