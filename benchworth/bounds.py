"""Bounds, lists of tuples (moment, bound): from this moment on so many may be there."""

from benchworth.books import FARTHEST
from benchworth.forms import is_tuple_of
from benchworth.loads import load_at
from benchworth.names import is_whole_within
from benchworth.papers import are_rising

GREATEST_BOUND = 24
MOST_BOUNDS = 24


def is_bound(thing):
    """Whether anything is a tuple (moment, bound) as bounds may have it."""
    if not is_tuple_of(thing, 2):
        return False
    moment, bound = thing
    return is_whole_within(moment, -FARTHEST, FARTHEST) and is_whole_within(bound, 0, GREATEST_BOUND)


def are_bounds(thing):
    """Whether anything is bounds."""
    if not isinstance(thing, list) or not 1 <= len(thing) <= MOST_BOUNDS:
        return False
    return all(is_bound(part) for part in thing) and are_rising(thing)


def bound_at(bounds, moment):
    """How many may be there at the moment: nobody ahead of the first step."""
    told = 0
    for begin, bound in bounds:
        if begin <= moment:
            told = bound
    return told


def keeps(book, bounds, some):
    """Whether the load of some is nowhere above the bounds."""
    # Loads rise at begins only, bounds fall at their own moments only.
    moments = [book[number][1] for number in some] + [moment for moment, bound in bounds]
    return all(load_at(book, some, moment) <= bound_at(bounds, moment) for moment in moments)


def opened(openings):
    """Openings as bounds: at each moment as many as are open."""
    return [(moment, len([other for other in openings if other <= moment])) for moment in sorted(set(openings))]
