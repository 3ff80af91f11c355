"""Looks at what a stretch is said to have to be worth, whoever said it."""

from benchworth.bounded import claim_within
from benchworth.bounds import keeps
from benchworth.choices import is_choice, is_some, worth_of
from benchworth.forms import is_tuple_of, is_word_tuple
from benchworth.names import is_whole
from benchworth.papers import claim, is_paper
from benchworth.wanted import beside, rest_of_book


def is_most(book, thing):
    """Whether anything is a tuple (worth, some, paper), some of the book of this worth and a paper."""
    if not is_tuple_of(thing, 3):
        return False
    worth, some, paper = thing
    return is_whole(worth) and is_some(book, some) and worth_of(book, some) == worth and is_paper(paper)


def lets_most(book, benches, thing):
    """Whether anything is a most of the book for so many benches, with its choice and its paper."""
    if not is_most(book, thing):
        return False
    worth, choice, paper = thing
    return is_choice(book, benches, choice) and claim(book, benches, paper) == worth


def lets_most_within(book, bounds, thing):
    """Whether anything is a most of the book within the bounds, with its some and its paper."""
    if not is_most(book, thing):
        return False
    worth, some, paper = thing
    return keeps(book, bounds, some) and claim_within(book, bounds, paper) == worth


def lets_wanted(book, benches, i, thing):
    """Whether anything is right as what the stretch would have to be worth; None just where there are no benches."""
    if benches == 0:
        return thing is None
    if not is_word_tuple(thing, "wanted", 4):
        return False
    word, least, without, along = thing
    others = rest_of_book(book, i)
    if not lets_most(others, benches, without) or not lets_most_within(others, beside(book, benches, i), along):
        return False
    return is_whole(least) and least == without[0] - along[0]
