"""Openings: seats on benches that are open from a moment on."""

from benchworth.errors import Crowded


def first_free(free_from, begin):
    """The first bench that is free at the begin; Crowded where none is."""
    for bench, moment in enumerate(free_from):
        if moment <= begin:
            return bench
    raise Crowded(begin)


def late_seats(book, some, openings):
    """Seats for some, each on a bench that is open at its begin; Crowded where too few are open.

    The stretches sit down in the order of their begins. Those that keep a bench from the next one
    are over its begin, each on a bench of its own: so one that finds none free finds too few open.
    """
    seats = [0] * len(some)
    free_from = list(openings)
    for place in sorted(range(len(some)), key=lambda at: book[some[at]][1]):
        stretch = book[some[place]]
        bench = first_free(free_from, stretch[1])
        seats[place] = bench
        free_from[bench] = stretch[2]
    return seats
