"""Slack: why a choice is worth less than a paper claims."""

from benchworth.loads import load_at
from benchworth.papers import rest_of, toll_of


def slack_moment(book, benches, paper, choice):
    """The first priced moment with fewer of the choice over it than benches, or None."""
    for moment, price in paper:
        if load_at(book, choice, moment) < benches:
            return moment
    return None


def slack_left(book, paper, choice):
    """The first stretch that is not chosen and has a rest above 0, or None."""
    for number, stretch in enumerate(book):
        if number not in choice and rest_of(stretch, paper) > 0:
            return number
    return None


def slack_dear(book, paper, choice):
    """The first chosen stretch whose toll is above its worth, or None."""
    for number in choice:
        if toll_of(book[number], paper) > book[number][3]:
            return number
    return None


def slack_of(book, benches, paper, choice):
    """The first slack, by the order of its kinds, or None: then the choice is worth just the claim."""
    found = (
        ("moment", slack_moment(book, benches, paper, choice)),
        ("left", slack_left(book, paper, choice)),
        ("dear", slack_dear(book, paper, choice)),
    )
    for kind, what in found:
        if what is not None:
            return (kind, what)
    return None
