"""Roads between the moments of a book: ways to choose otherwise, and what each of them gains.

The places are the moments. A way from the first place to the last one is what one bench more could
hold; a way from a stretch's end back to its begin is what has to go, or to come, for it to sit.
"""

from benchworth.books import moments_of
from benchworth.loads import load_at


def places_of(book):
    """The book's moments, or one place alone of a book that has none: ways need one to begin at."""
    return moments_of(book) or [0]


def free_roads(rooms):
    """The roads past no stretch: on to the next place always, back where a bench is free."""
    ahead = [(at, at + 1, 0, None) for at in range(len(rooms))]
    back = [(at + 1, at, 0, None) for at, room in enumerate(rooms) if room > 0]
    return ahead + back[::-1]


def stretch_roads(book, places, chosen):
    """The roads along stretches: on with one that is not chosen yet, back by giving up one that is."""
    place_of = {moment: at for at, moment in enumerate(places)}
    roads = []
    for number, (name, begin, end, worth) in enumerate(book):
        if number in chosen:
            roads.append((place_of[end], place_of[begin], -worth, number))
        else:
            roads.append((place_of[begin], place_of[end], worth, number))
    return roads


def roads_of(book, places, limits, chosen):
    """All roads (from place, to place, gain, number or None), limits telling how many may be where."""
    rooms = [limit - load_at(book, chosen, place) for limit, place in zip(limits, places)]
    return free_roads(rooms) + stretch_roads(book, places, chosen)


def greatest_gains(roads, many, start):
    """For each place the most that a way from the start gains, None where none comes there; and its last road.

    There is an end to it, as what is chosen is always the best for those that have roads: so no way
    round gains anything.
    """
    gains, last_roads = [None] * many, [None] * many
    gains[start] = 0
    better = True
    while better:
        better = False
        for road in roads:
            before, goal, gain, number = road
            if gains[before] is not None and (gains[goal] is None or gains[before] + gain > gains[goal]):
                gains[goal], last_roads[goal] = gains[before] + gain, road
                better = True
    return (gains, last_roads)


def numbers_along(last_roads, goal):
    """The numbers of the stretches on the way to the goal."""
    numbers = []
    while last_roads[goal] is not None:
        goal, reached, gain, number = last_roads[goal]
        if number is not None:
            numbers.append(number)
    return numbers


def changed_by(chosen, numbers):
    """What is chosen behind a way along these numbers: each comes or goes."""
    return sorted(set(chosen) ^ set(numbers))


def prices_by(gains, spots):
    """The paper of how much the gain rises from each place to the next one, each price at its spot."""
    rises = [gains[at + 1] - gains[at] for at in range(len(spots))]
    return [(spot, rise) for spot, rise in zip(spots, rises) if rise > 0]
