"""The most for so many benches: a choice, and a paper that claims just its worth."""

from benchworth.choices import worth_of
from benchworth.loads import crowd_of
from benchworth.roads import changed_by, greatest_gains, numbers_along, places_of, prices_by, roads_of


def best_up_to(book, benches):
    """For no bench, for one and so on a best choice, with a paper that claims the most for these and one more.

    The best way of one bench more changes a best choice into the next one. The gains along it make the
    paper: chosen stretches pay no more than their worths, the others no less, and no bench stays free
    where there is a price.
    """
    places = places_of(book)
    chosen, told = [], []
    for many in range(benches + 1):
        roads = roads_of(book, places, [many] * (len(places) - 1), chosen)
        gains, last_roads = greatest_gains(roads, len(places), 0)
        told.append((chosen, prices_by(gains, places[:-1])))
        chosen = changed_by(chosen, numbers_along(last_roads, len(places) - 1))
    return told


def greatest_load(book):
    """The greatest load of the whole book: benches beyond it bring nothing more."""
    return crowd_of(book, list(range(len(book))))[0]


def best_for(book, benches):
    """A best choice for so many benches, with a paper that claims the most for these and for one more."""
    return best_up_to(book, min(benches, greatest_load(book)))[-1]


def most_of(book, benches):
    """The most for so many benches: its worth, a choice of this worth, a paper that claims just it."""
    choice, paper = best_for(book, benches)
    return (worth_of(book, choice), choice, paper)


def held_against(book, benches, choice):
    """Against a choice: ("most", paper that claims just its worth) or ("more", choice that is worth more)."""
    worth, best, paper = most_of(book, benches)
    if worth_of(book, choice) == worth:
        return ("most", paper)
    return ("more", best)
