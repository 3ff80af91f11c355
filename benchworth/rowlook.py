"""Looks at rows, whoever wrote them."""

from benchworth.choices import is_choice, worth_of
from benchworth.forms import is_list_of, is_tuple_of, is_word_tuple
from benchworth.most import greatest_load
from benchworth.names import is_whole
from benchworth.papers import claim, is_paper


def is_step(book, benches, thing):
    """Whether anything is a tuple (worth, choice), the choice one for so many benches, of this worth."""
    if not is_tuple_of(thing, 2):
        return False
    worth, choice = thing
    return is_whole(worth) and is_choice(book, benches, choice) and worth_of(book, choice) == worth


def are_steps(book, thing, many):
    """Whether anything is so many steps, number k for k benches."""
    return is_list_of(thing, many) and all(is_step(book, benches, step) for benches, step in enumerate(thing))


def claims_step(book, steps, benches, paper):
    """Whether the paper claims just the worth of the step of so many benches."""
    return claim(book, benches, paper) == steps[benches][0]


def are_papers_for(book, steps, thing):
    """Whether anything is a paper for each step, that claims its worth and the next one's, the last without prices."""
    if not is_list_of(thing, len(steps)) or not all(is_paper(paper) for paper in thing) or thing[-1] != []:
        return False
    if not all(claims_step(book, steps, benches, paper) for benches, paper in enumerate(thing)):
        return False
    return all(claims_step(book, steps, benches + 1, paper) for benches, paper in enumerate(thing[:-1]))


def lets_row(book, thing):
    """Whether anything is a row of the book."""
    if not is_word_tuple(thing, "row", 3):
        return False
    word, steps, papers = thing
    return are_steps(book, steps, greatest_load(book) + 1) and are_papers_for(book, steps, papers)
