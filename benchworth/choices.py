"""Some of a book, rising lists of numbers of its stretches, and choices among them."""

from benchworth.books import is_over
from benchworth.names import is_whole_within


def is_some(book, thing):
    """Whether anything is some of the book."""
    if not isinstance(thing, list):
        return False
    least = 0
    for number in thing:
        if not is_whole_within(number, least, len(book) - 1):
            return False
        least = number + 1
    return True


def greatest_load(book, some):
    """The greatest load of some: it is reached where one of them begins."""
    stretches = [book[number] for number in some]
    loads = [len([other for other in stretches if is_over(other, one[1])]) for one in stretches]
    return max(loads, default=0)


def is_choice(book, benches, thing):
    """Whether anything is a choice of the book for so many benches."""
    return is_some(book, thing) and greatest_load(book, thing) <= benches


def worth_of(book, some):
    """The worths of some of the book together."""
    return sum([book[number][3] for number in some])
