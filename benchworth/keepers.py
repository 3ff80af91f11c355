"""Deeds upon books, and a keeper of a book that changes."""

from benchworth.books import look_at_book
from benchworth.errors import NoBenches, NoBook, NoStretch, NoUndo, Unknown
from benchworth.most import most_of
from benchworth.names import is_whole_within
from benchworth.rows import row_of
from benchworth.wanted import rest_of_book

GREATEST_BENCHES = 24


def number_of(book, name):
    """The number of the stretch that has the name; Unknown, of anything, where none has it."""
    names = [stretch[0] for stretch in book]
    if name not in names:
        raise Unknown("no stretch of the book has this name")
    return names.index(name)


def let_by(stretches):
    """The stretches, where they are a book; else NoStretch."""
    try:
        look_at_book(stretches)
    except NoBook:
        raise NoStretch("with this the book would be none any more") from None
    return stretches


def book_with(book, stretch):
    """The book with a stretch behind the others; NoStretch, of anything that can't stand there."""
    return let_by(book + [stretch])


def book_without(book, name):
    """The book without the stretch of this name; or Unknown."""
    return rest_of_book(book, number_of(book, name))


def book_changed(book, number, stretch):
    """The book with another stretch by this number; or NoStretch."""
    return let_by(book[:number] + [stretch] + book[number + 1:])


def book_with_worth(book, name, worth):
    """The book with another worth of the stretch of this name; or Unknown, NoStretch."""
    number = number_of(book, name)
    known, begin, end, earlier = book[number]
    return book_changed(book, number, (known, begin, end, worth))


def book_with_times(book, name, begin, end):
    """The book with another begin and end of the stretch of this name; or Unknown, NoStretch."""
    number = number_of(book, name)
    known, earlier_begin, earlier_end, worth = book[number]
    return book_changed(book, number, (known, begin, end, worth))


def look_at_benches(thing):
    """Tells None of a number of benches; anything else is refused with NoBenches."""
    if not is_whole_within(thing, 0, GREATEST_BENCHES):
        raise NoBenches("no number of benches")


class Keeper:
    """A book and so many benches, which change by deeds that can be undone."""

    def __init__(self, book, benches):
        look_at_book(book)
        look_at_benches(benches)
        # No deed changes a kept list, each makes a new one: so those of the past stay as they were.
        self.book = list(book)
        self.benches = benches
        self.past = []

    def become(self, book, benches):
        """Goes on with this book and these benches, so that it can be undone."""
        self.past.append((self.book, self.benches))
        self.book, self.benches = book, benches

    def put(self, stretch):
        """Puts a stretch behind the others; or NoStretch."""
        self.become(book_with(self.book, stretch), self.benches)

    def gone(self, name):
        """The stretch of this name goes; or Unknown."""
        self.become(book_without(self.book, name), self.benches)

    def set_worth(self, name, worth):
        """The stretch of this name gets another worth; or Unknown, NoStretch."""
        self.become(book_with_worth(self.book, name, worth), self.benches)

    def slide(self, name, begin, end):
        """The stretch of this name gets another begin and end; or Unknown, NoStretch."""
        self.become(book_with_times(self.book, name, begin, end), self.benches)

    def set_benches(self, benches):
        """Sets the benches; or NoBenches."""
        look_at_benches(benches)
        self.become(self.book, benches)

    def undo(self):
        """Undoes the last deed that isn't undone yet; or NoUndo."""
        if not self.past:
            raise NoUndo("there is no deed to undo")
        self.book, self.benches = self.past.pop()

    def book_now(self):
        """The book."""
        return list(self.book)

    def benches_now(self):
        """The number of benches."""
        return self.benches

    def worth_now(self):
        """The most for the book and benches."""
        return most_of(self.book, self.benches)[0]

    def choice_now(self):
        """A choice that is worth the most."""
        return most_of(self.book, self.benches)[1]

    def paper_now(self):
        """A paper that claims just the most."""
        return most_of(self.book, self.benches)[2]

    def row_now(self):
        """A row of the book."""
        return row_of(self.book)
