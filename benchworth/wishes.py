"""Wished benches: wishes (benches, lists), seatings by them, and papers with a price by bench and moment."""

from benchworth.choices import are_numbers, worth_of
from benchworth.forms import is_list_of, is_tuple_of
from benchworth.names import is_whole, is_whole_within
from benchworth.papers import is_price, rest_of
from benchworth.seats import meet_on_a_bench

MOST_BENCHES = 4
MOST_BENCH_PRICES = 192


def are_wishes(book, thing):
    """Whether anything is wishes for the book."""
    if not is_tuple_of(thing, 2) or not is_whole_within(thing[0], 1, MOST_BENCHES):
        return False
    benches, lists = thing
    return is_list_of(lists, len(book)) and all(are_numbers(wished, benches) for wished in lists)


def seated_in(seating):
    """The numbers of the stretches that have a bench, rising."""
    return [i for i, bench in enumerate(seating) if bench is not None]


def is_seating(book, wishes, thing):
    """Whether anything is a seating of the book by the wishes."""
    if not is_list_of(thing, len(book)):
        return False
    seated = seated_in(thing)
    if not all(is_whole(thing[i]) and thing[i] in wishes[1][i] for i in seated):
        return False
    return not meet_on_a_bench([book[i] for i in seated], [thing[i] for i in seated])


def seating_worth(book, seating):
    """The worths of all stretches that have a bench, together."""
    return worth_of(book, seated_in(seating))


def is_bench_price(thing):
    """Whether anything is a tuple (bench, moment, price) as a bench paper may have it."""
    return is_tuple_of(thing, 3) and is_whole_within(thing[0], 0, MOST_BENCHES - 1) and is_price(thing[1:])


def is_bench_paper(thing):
    """Whether anything is a bench paper."""
    if not isinstance(thing, list) or len(thing) > MOST_BENCH_PRICES:
        return False
    if not all(is_bench_price(part) for part in thing):
        return False
    return all(thing[at][:2] < thing[at + 1][:2] for at in range(len(thing) - 1))


def papers_by_bench(paper):
    """For each bench the paper of its own prices."""
    return [[part[1:] for part in paper if part[0] == bench] for bench in range(MOST_BENCHES)]


def bench_rest(stretch, benches, papers):
    """What the stretch is worth beyond the least of its tolls on these benches; 0 where there is no such bench."""
    # Where the toll is the least the rest is the greatest, and no rest is below 0.
    return max([rest_of(stretch, papers[bench]) for bench in benches], default=0)


def bench_claim(book, wishes, paper):
    """What the bench paper claims of the book by the wishes: no seating is worth more."""
    papers = papers_by_bench(paper)
    rests = [bench_rest(stretch, wished, papers) for stretch, wished in zip(book, wishes[1])]
    return sum([price for bench, moment, price in paper]) + sum(rests)
