"""Trees of reasons for rings: no choice is worth more than such a tree claims."""

from benchworth.choices import worth_of
from benchworth.errors import NoTree
from benchworth.forms import is_list_of, is_word_tuple
from benchworth.names import is_whole_within
from benchworth.rings import is_ring_paper, ring_loads, ring_rest

MOST_TUPLES = 500


def greatest_claim(root, look):
    """The greatest of what a tree's prices claim; NoTree, with the way to the first thing that can't stand there.

    look is asked of each thing, with what is done where it stands (by the numbers of stretches, at first
    nothing). It tells a list of what is claimed there and a list of the trees beneath, each with what is
    done there; or None of what can't stand there.
    """
    claims = []
    walked = 0
    waiting = [(root, {}, [])]
    while waiting:
        thing, done, way = waiting.pop()
        walked += 1
        told = look(thing, done)
        if told is None or walked > MOST_TUPLES:
            raise NoTree(way)
        claimed, beneath = told
        claims.extend(claimed)
        trees = [(tree, then, way + [number]) for number, (tree, then) in enumerate(beneath)]
        # The last one that waits is walked first: each tree to its end, ahead of those beside it.
        waiting.extend(trees[::-1])
    return max(claims)


def numbers_in(done):
    """The numbers of the stretches that are in, rising; done tells True of those, False of those that are out."""
    return sorted([i for i in done if done[i]])


def prices_claim(ring, benches, done, paper):
    """What the paper claims where some stretches are in and some are out."""
    inside = numbers_in(done)
    loads = ring_loads(ring, inside)
    prices = sum([price * (benches - loads[moment]) for moment, price in paper])
    rests = sum([ring_rest(ring, i, paper) for i in range(len(ring[1])) if i not in done])
    return worth_of(ring[1], inside) + prices + rests


def is_crowd(ring, benches, done, thing):
    """Whether anything is a moment of the ring at which the load of those in is above the benches."""
    return is_whole_within(thing, 0, ring[0] - 1) and ring_loads(ring, numbers_in(done))[thing] > benches


def is_split(ring, done, i, trees):
    """Whether i is a stretch that is neither in nor out, and trees a list of two things."""
    return is_whole_within(i, 0, len(ring[1]) - 1) and i not in done and is_list_of(trees, 2)


def look_at_tree(ring, benches, thing, done):
    """What is claimed by anything and which trees are beneath it, as greatest_claim asks; None of no tree."""
    if is_word_tuple(thing, "prices", 2) and is_ring_paper(ring, thing[1]):
        return ([prices_claim(ring, benches, done, thing[1])], [])
    if is_word_tuple(thing, "crowd", 2) and is_crowd(ring, benches, done, thing[1]):
        return ([], [])
    if is_word_tuple(thing, "split", 3) and is_split(ring, done, thing[1], thing[2]):
        word, i, (with_it, without) = thing
        return ([], [(with_it, {**done, i: True}), (without, {**done, i: False})])
    return None


def tree_claim(ring, benches, thing):
    """What a tree claims of the ring for so many benches; NoTree, of anything that is none."""
    return greatest_claim(thing, lambda tree, done: look_at_tree(ring, benches, tree, done))
