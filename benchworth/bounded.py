"""The most within bounds: some that keep them, and a paper that claims just their worth."""

from benchworth.bounds import bound_at
from benchworth.choices import worth_of
from benchworth.papers import rests_of
from benchworth.roads import changed_by, greatest_gains, numbers_along, places_of, prices_by, roads_of


def claim_within(book, bounds, paper):
    """What the paper claims of the book within the bounds: no some that keep them are worth more."""
    return sum([price * bound_at(bounds, moment) for moment, price in paper]) + rests_of(book, paper)


def tight_spot(bounds, begin, end):
    """The first moment from the begin on, ahead of the end, at which the fewest may be there."""
    moments = [begin] + [moment for moment, bound in bounds if begin < moment < end]
    return min(moments, key=lambda moment: bound_at(bounds, moment))


def best_within(book, places, limits):
    """Some that are worth the most where at most so many may be between each place and the next one.

    The stretches come one by one. A way back from a new one's end to its begin makes room for it: the
    best such way is taken where it costs less than the new one brings, so what is chosen stays the best.
    """
    chosen = []
    for number, (name, begin, end, worth) in enumerate(book):
        roads = roads_of(book[:number], places, limits, chosen)
        goal = places.index(begin)
        gains, last_roads = greatest_gains(roads, len(places), places.index(end))
        if gains[goal] is not None and gains[goal] + worth > 0:
            chosen = changed_by(chosen, numbers_along(last_roads, goal) + [number])
    return chosen


def most_within(book, bounds):
    """The most within the bounds: its worth, some that keep them of this worth, a paper that claims just it."""
    places = places_of(book)
    # Between two neighbours the load stays: only the tightest bound there matters, and only it has a price.
    spots = [tight_spot(bounds, begin, end) for begin, end in zip(places, places[1:])]
    limits = [bound_at(bounds, spot) for spot in spots]
    some = best_within(book, places, limits)
    gains, last_roads = greatest_gains(roads_of(book, places, limits, some), len(places), 0)
    return (worth_of(book, some), some, prices_by(gains, spots))
