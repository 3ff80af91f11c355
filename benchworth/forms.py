"""Forms of things that may be anything."""


def is_list_of(thing, many):
    """Whether anything is a list of so many things."""
    return isinstance(thing, list) and len(thing) == many


def is_tuple_of(thing, many):
    """Whether anything is a tuple of so many things."""
    return isinstance(thing, tuple) and len(thing) == many


def is_word_tuple(thing, word, many):
    """Whether anything is a tuple of so many things, this word the first of them."""
    return is_tuple_of(thing, many) and thing[0] == word
