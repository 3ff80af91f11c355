"""Some of a book, rising lists of numbers of its stretches, and choices among them."""

from benchworth.loads import crowd_of
from benchworth.names import is_whole_within


def is_some(book, thing):
    """Whether anything is some of the book."""
    if not isinstance(thing, list):
        return False
    least = 0
    for number in thing:
        if not is_whole_within(number, least, len(book) - 1):
            return False
        least = number + 1
    return True


def is_choice(book, benches, thing):
    """Whether anything is a choice of the book for so many benches."""
    return is_some(book, thing) and crowd_of(book, thing)[0] <= benches


def worth_of(book, some):
    """The worths of some of the book together."""
    return sum([book[number][3] for number in some])
