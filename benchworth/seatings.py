"""The most by wishes with a tree, or a half: a seating with a bench paper that claims at most twice its worth."""

from benchworth.books import meet
from benchworth.most import most_of
from benchworth.wishes import seating_worth

MOST_WHOLE = 500


def whole_count(wishes):
    """How many tuples a tree has that goes through all benches of each stretch, one stretch behind the other."""
    count = 1
    for wished in reversed(wishes[1]):
        count = 1 + (len(wished) + 1) * count
    return count


def met_by_last(book, seating):
    """The first stretch that the last seated one meets on its bench, or None."""
    last = len(seating) - 1
    for i, bench in enumerate(seating[:-1]):
        if bench is not None and bench == seating[last] and meet(book[i], book[last]):
            return i
    return None


def best_behind(book, lists, seating):
    """The most with the first stretches seated so: worth, seating, tree; -1 where two meet, so that any is better."""
    met = met_by_last(book, seating)
    if met is not None:
        return (-1, [], ("meet", met, len(seating) - 1))
    if len(seating) == len(book):
        return (seating_worth(book, seating), seating, ("prices", []))
    i = len(seating)
    told = [best_behind(book, lists, seating + [bench]) for bench in lists[i] + [None]]
    best = max(told, key=lambda one: one[0])
    return (best[0], best[1], ("sit", i, [tree for worth, behind, tree in told]))


def half_seated(book, wishes):
    """("half", worth, seating, paper): a seating of this worth, and a bench paper that claims at most twice this.

    Bench by bench the most of those left sits down, with a paper that claims just this of those left. All
    benches together these claim the worth of the seating, and so the prices and the rests of those that never
    sit are no more than that. The rests of those that sit are no more than their worths: the same once again.
    """
    benches, lists = wishes
    seating, paper = [None] * len(book), []
    for bench in range(benches):
        left = [i for i, wished in enumerate(lists) if bench in wished and seating[i] is None]
        worth, choice, prices = most_of([book[i] for i in left], 1)
        for number in choice:
            seating[left[number]] = bench
        paper.extend([(bench, moment, price) for moment, price in prices])
    return ("half", seating_worth(book, seating), seating, paper)


def most_seated(book, wishes):
    """The most with a tree, ("most", worth, seating, tree), where the whole count is no more than 500; else a half."""
    if whole_count(wishes) > MOST_WHOLE:
        return half_seated(book, wishes)
    worth, seating, tree = best_behind(book, wishes[1], [])
    return ("most", worth, seating, tree)
