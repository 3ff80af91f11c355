"""Loads: how many of some of a book are over a moment."""

from benchworth.books import is_over, moments_of


def load_at(book, some, moment):
    """How many of some are over the moment."""
    return len([number for number in some if is_over(book[number], moment)])


def loads_of(book, some):
    """The steps (moment, load) at which the load of some becomes another one, rising."""
    steps = []
    before = 0
    # Between two neighbours of these moments nothing begins or ends, so the load stays.
    for moment in moments_of([book[number] for number in some]):
        load = load_at(book, some, moment)
        if load != before:
            steps.append((moment, load))
        before = load
    return steps


def crowd_of(book, some):
    """The greatest load of some, the first moment at which it is, and those over that moment."""
    greatest, first = 0, None
    for moment, load in loads_of(book, some):
        if load > greatest:
            greatest, first = load, moment
    return (greatest, first, [number for number in some if is_over(book[number], first)])
