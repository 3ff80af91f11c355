"""The row of a book: the most for each number of benches, with a paper for each step."""

from benchworth.choices import worth_of
from benchworth.most import best_up_to, greatest_load


def row_of(book):
    """A row of the book: ("row", steps, papers)."""
    told = best_up_to(book, greatest_load(book))
    steps = [(worth_of(book, choice), choice) for choice, paper in told]
    return ("row", steps, [paper for choice, paper in told])


def most_by(row, benches):
    """The most for so many benches, by a row of a book."""
    steps = row[1]
    return steps[min(benches, len(steps) - 1)][0]


def more_by(row, benches):
    """What a bench more brings, by a row of a book."""
    return most_by(row, benches + 1) - most_by(row, benches)
