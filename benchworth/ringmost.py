"""The most of a ring: a choice, and a tree that claims just its worth."""

from benchworth.bounded import most_within
from benchworth.choices import worth_of
from benchworth.errors import TooMany
from benchworth.rings import is_over_ring, ring_loads

MOST_OVER_CUT = 6


def cut_of(ring):
    """The first moment that the fewest stretches are over; TooMany where those are more than six."""
    loads = ring_loads(ring, list(range(len(ring[1]))))
    if min(loads) > MOST_OVER_CUT:
        raise TooMany("more than six stretches are over each moment of the ring")
    return loads.index(min(loads))


def over_cut(ring, cut):
    """The numbers of the stretches that are over the cut, rising."""
    return [i for i in range(len(ring[1])) if is_over_ring(ring, i, cut)]


def line_stretch(ring, cut, i):
    """A stretch that is not over the cut as one of a book, whose moments count from the cut on."""
    name, begin, span, worth = ring[1][i]
    place = (begin - cut) % ring[0]
    return (name, place, place + span, worth)


def room_beside(ring, benches, cut, inside):
    """How many may be where, beside those that are in: bounds whose moments count from the cut on."""
    loads = ring_loads(ring, inside)
    rooms = [benches - load for load in loads[cut:] + loads[:cut]]
    return [(at, room) for at, room in enumerate(rooms) if at == 0 or room != rooms[at - 1]]


def best_beside(ring, benches, cut, inside):
    """The most with these in and all others over the cut out: its worth, a choice, prices that claim just it."""
    others = [i for i in range(len(ring[1])) if not is_over_ring(ring, i, cut)]
    line = [line_stretch(ring, cut, i) for i in others]
    worth, some, paper = most_within(line, room_beside(ring, benches, cut, inside))
    choice = sorted(inside + [others[number] for number in some])
    prices = sorted([((moment + cut) % ring[0], price) for moment, price in paper])
    return (worth + worth_of(ring[1], inside), choice, ("prices", prices))


def best_split(ring, benches, cut, inside, undecided):
    """The most with these in and those over the cut that are neither in nor undecided out: worth, choice, tree.

    Where more are in than benches are there it is worth -1, so that any choice is better.
    """
    if len(inside) > benches:
        return (-1, [], ("crowd", cut))
    if not undecided:
        return best_beside(ring, benches, cut, inside)
    i, behind = undecided[0], undecided[1:]
    with_it = best_split(ring, benches, cut, inside + [i], behind)
    without = best_split(ring, benches, cut, inside, behind)
    better = max(with_it, without, key=lambda told: told[0])
    return (better[0], better[1], ("split", i, [with_it[2], without[2]]))


def ring_most(ring, benches):
    """The most of the ring for so many benches: its worth, a choice, a tree that claims just it; or TooMany."""
    cut = cut_of(ring)
    return best_split(ring, benches, cut, [], over_cut(ring, cut))
