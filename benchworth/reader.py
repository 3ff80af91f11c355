"""Reads books, papers, some and bounds from their texts."""

from benchworth.books import can_stand
from benchworth.bounds import are_bounds
from benchworth.choices import is_some
from benchworth.errors import NoText
from benchworth.papers import is_paper

MOST_FIGURES = 14


def read_number(word):
    """The number that a word writes, of at most fourteen figures; None where it writes none."""
    figures = word[1:] if word.startswith("-") else word
    if not 1 <= len(figures) <= MOST_FIGURES or not all("0" <= figure <= "9" for figure in figures):
        return None
    number = int(word)
    # Noughts ahead and -0 are read, but never written.
    return number if str(number) == word else None


def words_behind(row, first):
    """The words of the row behind this first one; none where the row begins otherwise."""
    words = row.split(" ")
    return words[1:] if words[0] == first else []


def numbers_behind(row, first):
    """A tuple of the numbers in the row behind this first word, None for each word that writes none."""
    return tuple([read_number(word) for word in words_behind(row, first)])


def stretch_in(row):
    """What the row writes as a stretch: a tuple, perhaps of no stretch."""
    words = words_behind(row, "stretch")
    return tuple(words[:1] + [read_number(word) for word in words[1:]])


def chosen_in(book, row):
    """The number of the stretch that the row writes as chosen, or None."""
    names = [stretch[0] for stretch in book]
    words = words_behind(row, "chosen")
    return names.index(words[0]) if len(words) == 1 and words[0] in names else None


def read_rows(text, thing_in, can_be):
    """The things in the rows of a text; NoText by the first row with which they can't be what is read."""
    if not isinstance(text, str):
        raise NoText(0)
    things = []
    for number, row in enumerate(text.split("\n") if text else []):
        things.append(thing_in(row))
        if not can_be(things):
            raise NoText(number)
    return things


def read_book(text):
    """The book that a text writes; NoText, of anything that writes none."""
    return read_rows(text, stretch_in, lambda things: can_stand(things, len(things) - 1))


def read_paper(text):
    """The paper that a text writes; NoText, of anything that writes none."""
    return read_rows(text, lambda row: numbers_behind(row, "price"), is_paper)


def read_some(book, text):
    """The some of the book that a text writes; NoText, of anything that writes none."""
    return read_rows(text, lambda row: chosen_in(book, row), lambda things: is_some(book, things))


def read_bounds(text):
    """The bounds that a text writes; NoText, of anything that writes none."""
    bounds = read_rows(text, lambda row: numbers_behind(row, "from"), are_bounds)
    if not bounds:
        raise NoText(0)
    return bounds
