"""Papers, lists of tuples (moment, price), and what they claim."""

from benchworth.books import FARTHEST, is_over
from benchworth.forms import is_tuple_of
from benchworth.names import is_whole_within

GREATEST_PRICE = 10 ** 13
MOST_PRICES = 48


def is_price(thing):
    """Whether anything is a tuple (moment, price) as a paper may have it."""
    if not is_tuple_of(thing, 2):
        return False
    moment, price = thing
    return is_whole_within(moment, -FARTHEST, FARTHEST - 1) and is_whole_within(price, 1, GREATEST_PRICE)


def are_rising(steps):
    """Whether the moments, with which the steps begin, rise."""
    return all(steps[at][0] < steps[at + 1][0] for at in range(len(steps) - 1))


def is_paper(thing):
    """Whether anything is a paper."""
    if not isinstance(thing, list) or len(thing) > MOST_PRICES:
        return False
    return all(is_price(part) for part in thing) and are_rising(thing)


def toll_of(stretch, paper):
    """The prices of the moments that the stretch is over, together."""
    return sum([price for moment, price in paper if is_over(stretch, moment)])


def rest_of(stretch, paper):
    """What the stretch is worth beyond its toll, 0 where that is below 0."""
    return max(0, stretch[3] - toll_of(stretch, paper))


def rests_of(book, paper):
    """The rests of all stretches of the book, together."""
    return sum([rest_of(stretch, paper) for stretch in book])


def prices_of(paper):
    """The paper's prices, together."""
    return sum([price for moment, price in paper])


def claim(book, benches, paper):
    """What the paper claims of the book for so many benches: no choice is worth more."""
    return prices_of(paper) * benches + rests_of(book, paper)
