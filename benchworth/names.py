"""Whole numbers and names."""

LONGEST_NAME = 8


def is_whole(thing):
    """Whether anything is a whole number: to Python True and False are ints, here they are none."""
    return isinstance(thing, int) and not isinstance(thing, bool)


def is_whole_within(thing, least, greatest):
    """Whether anything is a whole number from least to greatest."""
    return is_whole(thing) and least <= thing <= greatest


def is_name(thing):
    """Whether anything is a name: a text of one to eight small letters."""
    if not isinstance(thing, str):
        return False
    return 1 <= len(thing) <= LONGEST_NAME and all("a" <= sign <= "z" for sign in thing)
