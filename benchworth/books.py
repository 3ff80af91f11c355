"""Stretches, tuples (name, begin, end, worth), and books of them."""

from benchworth.errors import NoBook
from benchworth.forms import is_tuple_of
from benchworth.names import is_name, is_whole_within

FARTHEST = 10 ** 12
GREATEST_WORTH = 10 ** 12
MOST_STRETCHES = 24


def is_stretch(thing):
    """Whether anything is a stretch."""
    if not is_tuple_of(thing, 4):
        return False
    name, begin, end, worth = thing
    if not is_whole_within(begin, -FARTHEST, FARTHEST) or not is_whole_within(end, -FARTHEST, FARTHEST):
        return False
    return is_name(name) and begin < end and is_whole_within(worth, 0, GREATEST_WORTH)


def is_over(stretch, moment):
    """Whether the stretch is over the moment: from its begin on, ahead of its end."""
    return stretch[1] <= moment < stretch[2]


def meet(one, other):
    """Whether some moment is under both stretches."""
    return one[1] < other[2] and other[1] < one[2]


def is_name_new(stretches, number):
    """Whether no stretch ahead of the one of this number has its name."""
    return stretches[number][0] not in [stretch[0] for stretch in stretches[:number]]


def can_stand(things, number):
    """Whether the thing of this number can stand in a book behind those ahead of it."""
    return number < MOST_STRETCHES and is_stretch(things[number]) and is_name_new(things, number)


def look_at_book(thing):
    """Tells None of a book; anything else is refused with NoBook."""
    if not isinstance(thing, list):
        raise NoBook(None)
    for number in range(len(thing)):
        if not can_stand(thing, number):
            raise NoBook(number)


def moments_of(book):
    """The begins and ends of the book's stretches, unlike, rising."""
    return sorted({moment for stretch in book for moment in stretch[1:3]})


def lying_over(book, moment):
    """The numbers of the stretches that are over the moment, rising."""
    return [number for number, stretch in enumerate(book) if is_over(stretch, moment)]
