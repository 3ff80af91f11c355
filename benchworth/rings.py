"""Rings of time, tuples (size, stretches): behind the last moment comes the first one again."""

from benchworth.books import GREATEST_WORTH, MOST_STRETCHES, is_name_new
from benchworth.choices import is_some
from benchworth.errors import NoRing
from benchworth.forms import is_tuple_of
from benchworth.names import is_name, is_whole_within
from benchworth.papers import is_paper, prices_of

GREATEST_SIZE = 40


def is_ring_stretch(size, thing):
    """Whether anything is a tuple (name, begin, span, worth) as a ring of this size may have it."""
    if not is_tuple_of(thing, 4):
        return False
    name, begin, span, worth = thing
    if not is_whole_within(begin, 0, size - 1) or not is_whole_within(span, 1, size):
        return False
    return is_name(name) and is_whole_within(worth, 0, GREATEST_WORTH)


def look_at_ring(thing):
    """Tells None of a ring; anything else is refused with NoRing."""
    if not is_tuple_of(thing, 2):
        raise NoRing(None)
    size, stretches = thing
    if not is_whole_within(size, 1, GREATEST_SIZE) or not isinstance(stretches, list):
        raise NoRing(None)
    for number, stretch in enumerate(stretches):
        if number >= MOST_STRETCHES or not is_ring_stretch(size, stretch) or not is_name_new(stretches, number):
            raise NoRing(number)


def is_over_ring(ring, i, moment):
    """Whether the stretch of this number is over the moment of the ring."""
    size, stretches = ring
    name, begin, span, worth = stretches[i]
    return (moment - begin) % size < span


def ring_loads(ring, some):
    """How many of some are over each moment of the ring."""
    return [len([i for i in some if is_over_ring(ring, i, moment)]) for moment in range(ring[0])]


def is_ring_choice(ring, benches, thing):
    """Whether anything is a choice of the ring for so many benches."""
    return is_some(ring[1], thing) and max(ring_loads(ring, thing)) <= benches


def is_ring_paper(ring, thing):
    """Whether anything is a paper whose moments are the ring's."""
    return is_paper(thing) and all(0 <= moment < ring[0] for moment, price in thing)


def ring_rest(ring, i, paper):
    """What the stretch is worth beyond its toll, 0 where that is below 0."""
    toll = sum([price for moment, price in paper if is_over_ring(ring, i, moment)])
    return max(0, ring[1][i][3] - toll)


def ring_claim(ring, benches, paper):
    """What the paper claims of the ring for so many benches: no choice is worth more."""
    return prices_of(paper) * benches + sum([ring_rest(ring, i, paper) for i in range(len(ring[1]))])
