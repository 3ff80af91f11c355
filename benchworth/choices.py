"""Some of a book, rising lists of numbers of its stretches, and choices among them."""

from benchworth.loads import crowd_of
from benchworth.names import is_whole_within


def are_numbers(thing, many):
    """Whether anything is a list of whole numbers, from 0 to less than so many, rising."""
    if not isinstance(thing, list):
        return False
    least = 0
    for number in thing:
        if not is_whole_within(number, least, many - 1):
            return False
        least = number + 1
    return True


def is_some(book, thing):
    """Whether anything is some of the book."""
    return are_numbers(thing, len(book))


def is_choice(book, benches, thing):
    """Whether anything is a choice of the book for so many benches."""
    return is_some(book, thing) and crowd_of(book, thing)[0] <= benches


def worth_of(book, some):
    """The worths of some of the book together."""
    return sum([book[number][3] for number in some])
