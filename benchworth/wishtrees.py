"""Trees of reasons for wished benches: no seating is worth more than such a tree claims."""

from benchworth.books import is_over, meet
from benchworth.choices import worth_of
from benchworth.forms import is_list_of, is_word_tuple
from benchworth.names import is_whole, is_whole_within
from benchworth.ringtrees import greatest_claim
from benchworth.wishes import bench_rest, is_bench_paper, papers_by_bench


def put_on(done, bench):
    """The numbers of the stretches that are put on the bench; done tells None of those that are left out."""
    return [i for i in done if done[i] == bench]


def put_anywhere(done):
    """The numbers of the stretches that are put on some bench, rising."""
    return sorted([i for i in done if done[i] is not None])


def is_taken(book, done, bench, moment):
    """Whether one that is put on the bench is over the moment."""
    return any(is_over(book[i], moment) for i in put_on(done, bench))


def free_benches(book, wishes, done, i):
    """Those of the stretch's benches on which it meets none that is put there."""
    return [bench for bench in wishes[1][i] if not any(meet(book[i], book[k]) for k in put_on(done, bench))]


def prices_claim(book, wishes, done, paper):
    """What the bench paper claims where some stretches are put and some are left out."""
    papers = papers_by_bench(paper)
    prices = sum([price for bench, moment, price in paper if not is_taken(book, done, bench, moment)])
    undecided = [i for i in range(len(book)) if i not in done]
    rests = sum([bench_rest(book[i], free_benches(book, wishes, done, i), papers) for i in undecided])
    return worth_of(book, put_anywhere(done)) + prices + rests


def is_meet(book, done, i, k):
    """Whether i and k, the lesser one first, are two stretches that are put on one bench and meet."""
    if not is_whole(i) or not is_whole(k) or i >= k:
        return False
    return done.get(i) is not None and done.get(i) == done.get(k) and meet(book[i], book[k])


def is_sit(wishes, done, i, trees):
    """Whether i is a stretch that is neither put nor left out, and trees a list with one for each way to go on."""
    lists = wishes[1]
    return is_whole_within(i, 0, len(lists) - 1) and i not in done and is_list_of(trees, len(lists[i]) + 1)


def look_at_tree(book, wishes, thing, done):
    """What is claimed by anything and which trees are beneath it, as greatest_claim asks; None of no tree."""
    if is_word_tuple(thing, "prices", 2) and is_bench_paper(thing[1]):
        return ([prices_claim(book, wishes, done, thing[1])], [])
    if is_word_tuple(thing, "meet", 3) and is_meet(book, done, thing[1], thing[2]):
        return ([], [])
    if is_word_tuple(thing, "sit", 3) and is_sit(wishes, done, thing[1], thing[2]):
        word, i, trees = thing
        return ([], [(tree, {**done, i: bench}) for tree, bench in zip(trees, wishes[1][i] + [None])])
    return None


def wish_claim(book, wishes, thing):
    """What a tree claims of the book by the wishes; NoTree, of anything that is none."""
    return greatest_claim(thing, lambda tree, done: look_at_tree(book, wishes, tree, done))
