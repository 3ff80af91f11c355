"""Writes books, papers, some and bounds as rows parted by line feeds."""


def write_book(book):
    """The text of a book."""
    return "\n".join([f"stretch {name} {begin} {end} {worth}" for name, begin, end, worth in book])


def write_paper(paper):
    """The text of a paper."""
    return "\n".join([f"price {moment} {price}" for moment, price in paper])


def write_some(book, some):
    """The text of some of the book."""
    return "\n".join([f"chosen {book[number][0]}" for number in some])


def write_bounds(bounds):
    """The text of bounds."""
    return "\n".join([f"from {moment} {bound}" for moment, bound in bounds])
