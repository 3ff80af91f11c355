"""Seats: a bench for each of some of a book, such that no two that meet share one."""

from benchworth.books import meet
from benchworth.loads import crowd_of
from benchworth.names import is_whole_within
from benchworth.openings import late_seats


def meet_on_a_bench(stretches, seats):
    """Whether two of the stretches meet on one bench."""
    for place in range(len(stretches)):
        for earlier in range(place):
            if seats[earlier] == seats[place] and meet(stretches[earlier], stretches[place]):
                return True
    return False


def are_seats(book, some, benches, thing):
    """Whether anything is seats for some of the book on so many benches."""
    if not isinstance(thing, list) or len(thing) != len(some):
        return False
    if not all(is_whole_within(bench, 0, benches - 1) for bench in thing):
        return False
    return not meet_on_a_bench([book[number] for number in some], thing)


def seats_for(book, some):
    """Seats for some of the book on as many benches as the load of their crowd."""
    # Benches that are open from the earliest begin on are never too few, where they are that many.
    earliest = min([book[number][1] for number in some], default=0)
    return late_seats(book, some, [earliest] * crowd_of(book, some)[0])
