"""What the tests share: odd things, drawn books, and looks at what is told.

Nothing here uses the program, so that the tests weigh it against the document alone.
"""

import random
import resource
import signal
from contextlib import contextmanager
from copy import deepcopy
from itertools import combinations

FAR = 10 ** 12
SIXTY = int("9" * 60)

# Things of many kinds, none of them a whole number, a list or a tuple of four.
# (Numbers with a point and things of own classes are not promised.)
ODD_THINGS = [
    None, True, False, "", "0", "1", "a", "abc", "stretch", "a\nb", b"", b"abc",
    (), (1,), (1, 2), ("a", 0, 1), {}, {"a": 1}, {0: ("a", 0, 1, 1)}, set(), {1, 2}, frozenset(),
    range(3), len, int, Ellipsis,
]

NAMES = [letter for letter in "abcdefghijklmnopqrstuvwxyz"]


def whole_book():
    """Twenty-four stretches, as many as a book may have, each but the last meeting the next one."""
    return [(NAMES[i], 10 * i, 10 * i + 15, i) for i in range(24)]


def piled_book(many=24):
    """So many stretches that are all over the moment 0 and may be over very many more."""
    return [(NAMES[i], -FAR + i, FAR - i, i + 1) for i in range(many)]


def drawn_book(draw, most=6, last=9):
    """A small book by a seeded source, its moments few enough to go through one by one."""
    book = []
    for i in range(draw.randint(0, most)):
        begin = draw.randint(-last, last - 1)
        end = draw.randint(begin + 1, min(last, begin + draw.choice([1, 3, 2 * last])))
        book.append((NAMES[i], begin, end, draw.randint(0, 9)))
    draw.shuffle(book)
    return book


def drawn_books(seed, many, most=6, last=9):
    draw = random.Random(seed)
    return [drawn_book(draw, most, last) for _ in range(many)]


def every_some(book):
    """All lists of numbers of the book's stretches, rising."""
    return [list(some) for size in range(len(book) + 1) for some in combinations(range(len(book)), size)]


def load_by_hand(book, some, moment):
    return len([i for i in some if book[i][1] <= moment and moment < book[i][2]])


def near_moments(book):
    """Each moment of a small book, from well ahead of it to well behind it."""
    moments = [moment for stretch in book for moment in stretch[1:3]] or [0]
    return range(min(moments) - 2, max(moments) + 3)


def greatest_by_hand(book, some):
    return max(load_by_hand(book, some, moment) for moment in near_moments(book))


def lists_in(told):
    """All lists in what is told, also those in tuples and lists, each place once."""
    found = [told] if isinstance(told, list) else []
    if isinstance(told, (list, tuple)):
        for part in told:
            found.extend(lists_in(part))
    return found


def spoil(told):
    for one in lists_in(told):
        one.append("spoilt")
        one.reverse()


def alike(one, other):
    """Whether two things are equal and of one kind, all through: 1 is not True, a list no tuple."""
    if type(one) is not type(other) or one != other:
        return False
    if isinstance(one, (list, tuple)):
        return all(alike(part, other_part) for part, other_part in zip(one, other))
    return True


class TooLate(KeyboardInterrupt):
    """What a subTest does not swallow: it would go on with the next one, and nothing would stop that."""


@contextmanager
def soon(seconds=20):
    """Fails what goes through moments or lists one by one, or writes them all down."""
    def too_late(signum, frame):
        raise TooLate()

    limits = resource.getrlimit(resource.RLIMIT_AS)
    earlier = signal.signal(signal.SIGALRM, too_late)
    most = 4 * 2 ** 30
    soft = most if limits[0] == resource.RLIM_INFINITY else min(most, limits[0])
    resource.setrlimit(resource.RLIMIT_AS, (soft, limits[1]))
    signal.alarm(seconds)
    try:
        yield
    except TooLate:
        raise AssertionError(f"this took more than {seconds} seconds") from None
    finally:
        signal.alarm(0)
        signal.signal(signal.SIGALRM, earlier)
        resource.setrlimit(resource.RLIMIT_AS, limits)


class Told:
    """For test cases: looks at what a question tells, and at what it does to what it is handed.

    Each of their tests has to end soon: moments and lists of benches are too many to be gone through.
    """

    def __init_subclass__(cls):
        super().__init_subclass__()
        for name, method in list(vars(cls).items()):
            if name.startswith("test_"):
                setattr(cls, name, soon()(method))

    def assert_alike(self, told, expected):
        self.assertTrue(alike(told, expected), f"told {told!r}, expected {expected!r}")

    def asked(self, question, *handed):
        """What is told; that nothing handed in is changed or kept, nor anything told kept."""
        mine = deepcopy(handed)
        told = question(*mine)
        self.assert_alike(mine, handed)
        kept = deepcopy(told)
        places = [id(one) for one in lists_in(told)]
        self.assertEqual(len(places), len(set(places)), "two places share one list")
        spoil(told)
        self.assert_alike(mine, handed)
        again = question(*mine)
        self.assert_alike(again, kept)
        spoil(mine)
        self.assert_alike(again, kept)
        self.assert_alike(question(*deepcopy(handed)), kept)
        return kept

    def assert_told(self, expected, question, *handed):
        self.assert_alike(self.asked(question, *handed), expected)

    def refused(self, kind, question, *handed):
        """The refusal, of just this kind; that nothing handed in is changed, and that it comes again."""
        mine = deepcopy(handed)
        for _ in range(2):
            with self.assertRaises(kind) as caught:
                question(*mine)
            self.assertIs(type(caught.exception), kind)
            self.assert_alike(mine, handed)
        return caught.exception


def meet_by_hand(one, other):
    return max(one[1], other[1]) < min(one[2], other[2])


def seats_by_hand(book, some, benches, seats):
    """Whether a list of benches is seats for some, each pair looked at."""
    if len(seats) != len(some) or not all(type(bench) is int and 0 <= bench < benches for bench in seats):
        return False
    return not any(seats[k] == seats[j] and meet_by_hand(book[some[k]], book[some[j]])
                   for k in range(len(some)) for j in range(k))


def worth_by_hand(book, some):
    return sum(book[i][3] for i in some)


def toll_by_hand(stretch, paper):
    return sum(price for moment, price in paper if stretch[1] <= moment and moment < stretch[2])


def drawn_paper(draw, most=5, last=9):
    moments = sorted(draw.sample(range(-last - 1, last + 1), draw.randint(0, most)))
    return [(moment, draw.randint(1, 9)) for moment in moments]
