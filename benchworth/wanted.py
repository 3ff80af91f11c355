"""What a bench more brings, and what a stretch would have to be worth to be chosen."""

from benchworth.books import FARTHEST
from benchworth.bounded import most_within
from benchworth.most import best_for, most_of
from benchworth.papers import prices_of


def bench_more(book, benches):
    """What a bench more brings, and a paper that claims the most for so many benches and for one more."""
    choice, paper = best_for(book, benches)
    # One paper claims both mosts, and for one bench more just its prices once more.
    return (prices_of(paper), paper)


def rest_of_book(book, i):
    """The book without the stretch of this number."""
    return book[:i] + book[i + 1:]


def beside(book, benches, i):
    """The bounds beside a stretch: so many benches, but one less at the moments that it is over."""
    begin, end = book[i][1:3]
    ahead = [(-FARTHEST, benches)] if begin > -FARTHEST else []
    return ahead + [(begin, benches - 1), (end, benches)]


def wanted(book, benches, i):
    """What the stretch would have to be worth, with the mosts that show it; None where there are no benches."""
    if benches == 0:
        return None
    others = rest_of_book(book, i)
    without = most_of(others, benches)
    along = most_within(others, beside(book, benches, i))
    return ("wanted", without[0] - along[0], without, along)
