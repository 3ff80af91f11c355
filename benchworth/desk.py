"""A desk that keeps books by names, is told rows and answers each with a text."""

from benchworth.errors import NoRow, TooMany, Unknown
from benchworth.keepers import GREATEST_BENCHES, book_with, book_with_times, book_with_worth, book_without, number_of
from benchworth.most import most_of
from benchworth.names import is_name, is_whole_within
from benchworth.papers import claim
from benchworth.reader import read_book, read_number, read_paper
from benchworth.rows import row_of
from benchworth.seats import seats_for
from benchworth.wanted import bench_more, wanted
from benchworth.writer import write_book

MOST_BOOKS = 40


def name_in(part):
    """The part of a row where it is a name, else None."""
    return part if is_name(part) else None


def number_in(part):
    """The number that the part of a row writes, None where it writes none."""
    return read_number(part)


def benches_in(part):
    """The number of benches that the part of a row writes, None where it writes none."""
    number = read_number(part)
    return number if is_whole_within(number, 0, GREATEST_BENCHES) else None


def fewer_benches_in(part):
    """The number of benches that the part writes, None where it writes none or one more would be too many."""
    number = read_number(part)
    return number if is_whole_within(number, 0, GREATEST_BENCHES - 1) else None


def text_in(part):
    """The text of rows that the part of a row writes as one."""
    return part.replace("; ", "\n")


def book_by(books, name):
    """The book that stands by the name; or Unknown."""
    if name not in books:
        raise Unknown("no book stands by this name")
    return books[name]


def say_book(books, name, text):
    """Answers `book NAME TEXT`."""
    book = read_book(text)
    if name not in books and len(books) >= MOST_BOOKS:
        raise TooMany("the desk keeps no more books")
    books[name] = book
    return "ok"


def say_shown(books, name):
    """Answers `shown NAME`."""
    return write_book(book_by(books, name)).replace("\n", "; ")


def say_drop(books, name):
    """Answers `drop NAME`."""
    book_by(books, name)
    del books[name]
    return "ok"


def say_names(books):
    """Answers `names`."""
    return " ".join(sorted(books)) or "-"


def say_put(books, name, stretch, begin, end, worth):
    """Answers `put NAME STRETCH BEGIN END WORTH`."""
    books[name] = book_with(book_by(books, name), (stretch, begin, end, worth))
    return "ok"


def say_gone(books, name, stretch):
    """Answers `gone NAME STRETCH`."""
    books[name] = book_without(book_by(books, name), stretch)
    return "ok"


def say_worth(books, name, stretch, worth):
    """Answers `worth NAME STRETCH WORTH`."""
    books[name] = book_with_worth(book_by(books, name), stretch, worth)
    return "ok"


def say_slide(books, name, stretch, begin, end):
    """Answers `slide NAME STRETCH BEGIN END`."""
    books[name] = book_with_times(book_by(books, name), stretch, begin, end)
    return "ok"


def say_most(books, name, benches):
    """Answers `most NAME BENCHES`."""
    return str(most_of(book_by(books, name), benches)[0])


def say_who(books, name, benches):
    """Answers `who NAME BENCHES`."""
    book = book_by(books, name)
    choice = most_of(book, benches)[1]
    return "; ".join([f"{book[i][0]} {bench}" for i, bench in zip(choice, seats_for(book, choice))]) or "-"


def say_claim(books, name, benches, text):
    """Answers `claim NAME BENCHES TEXT`."""
    book = book_by(books, name)
    return str(claim(book, benches, read_paper(text)))


def say_row(books, name):
    """Answers `row NAME`."""
    word, steps, papers = row_of(book_by(books, name))
    return " ".join([str(worth) for worth, choice in steps])


def say_more(books, name, benches):
    """Answers `more NAME BENCHES`."""
    return str(bench_more(book_by(books, name), benches)[0])


def say_wanted(books, name, benches, stretch):
    """Answers `wanted NAME BENCHES STRETCH`."""
    book = book_by(books, name)
    told = wanted(book, benches, number_of(book, stretch))
    return "never" if told is None else str(told[1])


# The kinds of a row's parts, by its first word: a row is refused by its form ahead of any look at the books.
FORMS = {
    "book": ("name", "text"),
    "shown": ("name",),
    "drop": ("name",),
    "names": (),
    "put": ("name", "name", "number", "number", "number"),
    "gone": ("name", "name"),
    "worth": ("name", "name", "number"),
    "slide": ("name", "name", "number", "number"),
    "most": ("name", "benches"),
    "who": ("name", "benches"),
    "claim": ("name", "benches", "text"),
    "row": ("name",),
    "more": ("name", "fewer"),
    "wanted": ("name", "benches", "name"),
}
READERS = {
    "name": name_in,
    "number": number_in,
    "benches": benches_in,
    "fewer": fewer_benches_in,
    "text": text_in,
}
ANSWERS = {
    "book": say_book,
    "shown": say_shown,
    "drop": say_drop,
    "names": say_names,
    "put": say_put,
    "gone": say_gone,
    "worth": say_worth,
    "slide": say_slide,
    "most": say_most,
    "who": say_who,
    "claim": say_claim,
    "row": say_row,
    "more": say_more,
    "wanted": say_wanted,
}


def parts_of(row, form):
    """The parts of a row behind its first word."""
    # A text goes on to the end of the row, with all its blanks.
    parts = row.split(" ", len(form)) if "text" in form else row.split(" ")
    return parts[1:]


def value_of(kind, part):
    """What a part of this kind writes, None where it writes nothing."""
    reader = READERS[kind]
    return reader(part)


def read_row(row):
    """The first word of a row, and a list of what its other parts write; NoRow, of anything that is no row."""
    if not isinstance(row, str) or "\n" in row:
        raise NoRow("no text, or one of several rows")
    word = row.partition(" ")[0]
    if word not in FORMS:
        raise NoRow("no such first word")
    form = FORMS[word]
    parts = parts_of(row, form)
    values = [value_of(kind, part) for kind, part in zip(form, parts)]
    if len(parts) != len(form) or None in values:
        raise NoRow("a word too few or too many, or one that is none of its kind")
    return (word, values)


class Desk:
    """Keeps books by names, and answers rows."""

    def __init__(self):
        self.books = {}

    def say(self, row):
        """Answers a row with a text, or refuses it."""
        word, values = read_row(row)
        answer = ANSWERS[word]
        books = self.books
        return answer(books, *values)
