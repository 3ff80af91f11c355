"""What the tests share: odd things, drawn books, and looks at what is told.

Nothing here uses the program, so that the tests weigh it against the document alone.
"""

import random
import resource
import signal
from contextlib import contextmanager
from copy import deepcopy
from itertools import combinations, product

FAR = 10 ** 12
SIXTY = int("9" * 60)

# Things of many kinds, none of them a whole number, a list or a tuple of four.
# (Numbers with a point and things of own classes are not promised.)
ODD_THINGS = [
    None, True, False, "", "0", "1", "a", "abc", "stretch", "a\nb", b"", b"abc",
    (), (1,), (1, 2), ("a", 0, 1), {}, {"a": 1}, {0: ("a", 0, 1, 1)}, set(), {1, 2}, frozenset(),
    range(3), len, int, Ellipsis,
]

NAMES = [letter for letter in "abcdefghijklmnopqrstuvwxyz"]


def whole_book():
    """Twenty-four stretches, as many as a book may have, each but the last meeting the next one."""
    return [(NAMES[i], 10 * i, 10 * i + 15, i) for i in range(24)]


def piled_book(many=24):
    """So many stretches that are all over the moment 0 and may be over very many more."""
    return [(NAMES[i], -FAR + i, FAR - i, i + 1) for i in range(many)]


def drawn_book(draw, most=6, last=9):
    """A small book by a seeded source, its moments few enough to go through one by one."""
    book = []
    for i in range(draw.randint(0, most)):
        begin = draw.randint(-last, last - 1)
        end = draw.randint(begin + 1, min(last, begin + draw.choice([1, 3, 2 * last])))
        book.append((NAMES[i], begin, end, draw.randint(0, 9)))
    draw.shuffle(book)
    return book


def drawn_books(seed, many, most=6, last=9):
    draw = random.Random(seed)
    return [drawn_book(draw, most, last) for _ in range(many)]


def every_some(book):
    """All lists of numbers of the book's stretches, rising."""
    return [list(some) for size in range(len(book) + 1) for some in combinations(range(len(book)), size)]


def load_by_hand(book, some, moment):
    return len([i for i in some if book[i][1] <= moment and moment < book[i][2]])


def near_moments(book):
    """Each moment of a small book, from well ahead of it to well behind it."""
    moments = [moment for stretch in book for moment in stretch[1:3]] or [0]
    return range(min(moments) - 2, max(moments) + 3)


def greatest_by_hand(book, some):
    return max(load_by_hand(book, some, moment) for moment in near_moments(book))


def lists_in(told):
    """All lists in what is told, also those in tuples and lists, each place once."""
    found = [told] if isinstance(told, list) else []
    if isinstance(told, (list, tuple)):
        for part in told:
            found.extend(lists_in(part))
    return found


def spoil(told):
    for one in lists_in(told):
        one.append("spoilt")
        one.reverse()


def alike(one, other):
    """Whether two things are equal and of one kind, all through: 1 is not True, a list no tuple."""
    if type(one) is not type(other) or one != other:
        return False
    if isinstance(one, (list, tuple)):
        return all(alike(part, other_part) for part, other_part in zip(one, other))
    return True


class TooLate(KeyboardInterrupt):
    """What a subTest does not swallow: it would go on with the next one, and nothing would stop that."""


@contextmanager
def soon(seconds=20):
    """Fails what goes through moments or lists one by one, or writes them all down."""
    def too_late(signum, frame):
        raise TooLate()

    limits = resource.getrlimit(resource.RLIMIT_AS)
    earlier = signal.signal(signal.SIGALRM, too_late)
    most = 4 * 2 ** 30
    soft = most if limits[0] == resource.RLIM_INFINITY else min(most, limits[0])
    resource.setrlimit(resource.RLIMIT_AS, (soft, limits[1]))
    signal.alarm(seconds)
    try:
        yield
    except TooLate:
        raise AssertionError(f"this took more than {seconds} seconds") from None
    finally:
        signal.alarm(0)
        signal.signal(signal.SIGALRM, earlier)
        resource.setrlimit(resource.RLIMIT_AS, limits)


class Told:
    """For test cases: looks at what a question tells, and at what it does to what it is handed.

    Each of their tests has to end soon: moments and lists of benches are too many to be gone through.
    """

    def __init_subclass__(cls):
        super().__init_subclass__()
        for name, method in list(vars(cls).items()):
            if name.startswith("test_"):
                setattr(cls, name, soon()(method))

    def assert_alike(self, told, expected):
        self.assertTrue(alike(told, expected), f"told {told!r}, expected {expected!r}")

    def asked(self, question, *handed):
        """What is told; that nothing handed in is changed or kept, nor anything told kept."""
        mine = deepcopy(handed)
        told = question(*mine)
        self.assert_alike(mine, handed)
        kept = deepcopy(told)
        places = [id(one) for one in lists_in(told)]
        self.assertEqual(len(places), len(set(places)), "two places share one list")
        spoil(told)
        self.assert_alike(mine, handed)
        again = question(*mine)
        self.assert_alike(again, kept)
        spoil(mine)
        self.assert_alike(again, kept)
        self.assert_alike(question(*deepcopy(handed)), kept)
        return kept

    def assert_told(self, expected, question, *handed):
        self.assert_alike(self.asked(question, *handed), expected)

    def refused(self, kind, question, *handed):
        """The refusal, of just this kind; that nothing handed in is changed, and that it comes again."""
        mine = deepcopy(handed)
        for _ in range(2):
            with self.assertRaises(kind) as caught:
                question(*mine)
            self.assertIs(type(caught.exception), kind)
            self.assert_alike(mine, handed)
        return caught.exception


def meet_by_hand(one, other):
    return max(one[1], other[1]) < min(one[2], other[2])


def seats_by_hand(book, some, benches, seats):
    """Whether a list of benches is seats for some, each pair looked at."""
    if len(seats) != len(some) or not all(type(bench) is int and 0 <= bench < benches for bench in seats):
        return False
    return not any(seats[k] == seats[j] and meet_by_hand(book[some[k]], book[some[j]])
                   for k in range(len(some)) for j in range(k))


def worth_by_hand(book, some):
    return sum(book[i][3] for i in some)


def toll_by_hand(stretch, paper):
    return sum(price for moment, price in paper if stretch[1] <= moment and moment < stretch[2])


def drawn_paper(draw, most=5, last=9):
    moments = sorted(draw.sample(range(-last - 1, last + 1), draw.randint(0, most)))
    return [(moment, draw.randint(1, 9)) for moment in moments]


def some_by_hand(book, thing):
    """Whether anything is some of the book."""
    return (type(thing) is list and all(type(i) is int and 0 <= i < len(book) for i in thing)
            and all(i < j for i, j in zip(thing, thing[1:])))


def peak_by_hand(book, some):
    """The greatest load, also of stretches that are over too many moments to go through: it is at a begin."""
    return max([load_by_hand(book, some, book[i][1]) for i in some], default=0)


def choice_by_hand(book, benches, thing):
    return some_by_hand(book, thing) and peak_by_hand(book, thing) <= benches


def paper_by_hand(thing):
    """Whether anything is a paper."""
    if type(thing) is not list or len(thing) > 48:
        return False
    for part in thing:
        if type(part) is not tuple or len(part) != 2 or type(part[0]) is not int or type(part[1]) is not int:
            return False
        if not (-FAR <= part[0] < FAR and 1 <= part[1] <= 10 * FAR):
            return False
    return all(one[0] < other[0] for one, other in zip(thing, thing[1:]))


def rests_by_hand(book, paper):
    return sum(max(stretch[3] - toll_by_hand(stretch, paper), 0) for stretch in book)


def claim_by_hand(book, benches, paper):
    return sum(price * benches for moment, price in paper) + rests_by_hand(book, paper)


def most_by_hand(book, benches):
    """The most of a small book: all choices are weighed."""
    return max(worth_by_hand(book, some) for some in every_some(book) if peak_by_hand(book, some) <= benches)


def modest_by_hand(book, paper):
    """Whether a paper has no more than forty-seven prices, each where stretches are, none above all their worths."""
    if len(paper) > 47:
        return False
    over = [[stretch[3] for stretch in book if stretch[1] <= moment and moment < stretch[2]] for moment, price in paper]
    return all(worths and price <= max(worths) for worths, (moment, price) in zip(over, paper))


def others_for(part):
    """Things to stand in the stead of one: near it, of another kind, or nothing like it."""
    if type(part) is int:
        return [part + 1, part - 1, -part - 7, True, False, None, str(part), [part], (part,)]
    if type(part) is str:
        return [part + "s", part[:-1], part.upper(), "", None, 0, True, part.encode(), [part], (part,)]
    if type(part) is list:
        return [part[:-1], part[1:], part + part[-1:], part + [0], part + [()], part + [[]], part[::-1], [part], [],
                tuple(part), (part,), None, 0, True, False, "", {}, dict.fromkeys(range(len(part)))]
    if type(part) is tuple:
        return [part[:-1], part[1:], part + part[-1:], part + (0,), part + ([],), part[::-1], (part,), (),
                list(part), [part], None, 0, True, False, "", {}]
    return [0, 1, True, False, "", [], ()]


def otherwise(thing):
    """The thing with one thing in it otherwise, each in many ways."""
    found = list(others_for(thing))
    if isinstance(thing, (list, tuple)):
        for at, part in enumerate(thing):
            for other in otherwise(part):
                changed = list(deepcopy(thing))
                changed[at] = deepcopy(other)
                found.append(type(thing)(changed))
    return [one for one in found if not alike(one, thing)]


def drawn_far_book(draw, many=24, worths=(0, FAR)):
    """So many stretches, no two begins or ends alike, over very many moments."""
    moments = draw.sample(range(-FAR, FAR + 1), 2 * many)
    ends = [sorted(moments[2 * i:2 * i + 2]) for i in range(many)]
    return [(NAMES[i], begin, end, draw.randint(*worths)) for i, (begin, end) in enumerate(ends)]


def step_by_hand(book, benches, thing):
    return (type(thing) is tuple and len(thing) == 2 and type(thing[0]) is int
            and choice_by_hand(book, benches, thing[1]) and worth_by_hand(book, thing[1]) == thing[0])


def row_by_hand(book, thing):
    """Whether anything is a row of the book."""
    if type(thing) is not tuple or len(thing) != 3 or type(thing[0]) is not str or thing[0] != "row":
        return False
    word, steps, papers = thing
    last = peak_by_hand(book, range(len(book)))
    if type(steps) is not list or type(papers) is not list or len(steps) != last + 1 or len(papers) != last + 1:
        return False
    if not all(step_by_hand(book, k, steps[k]) for k in range(last + 1)):
        return False
    if not all(paper_by_hand(paper) for paper in papers) or papers[last]:
        return False
    return (all(claim_by_hand(book, k, papers[k]) == steps[k][0] for k in range(last + 1))
            and all(claim_by_hand(book, k + 1, papers[k]) == steps[k + 1][0] for k in range(last)))


def bound_by_hand(bounds, moment):
    return ([0] + [bound for begin, bound in bounds if begin <= moment])[-1]


def keeps_by_hand(book, bounds, some):
    """Whether some keep the bounds: begins and steps are looked at, and the moments beside them."""
    moments = [moment for i in some for moment in book[i][1:3]] + [moment for moment, bound in bounds]
    return all(load_by_hand(book, some, near) <= bound_by_hand(bounds, near)
               for moment in moments for near in (moment - 1, moment, moment + 1))


def drawn_bounds(draw, most=4, last=9, greatest=3):
    moments = sorted(draw.sample(range(-last - 2, last + 3), draw.randint(1, most)))
    return [(moment, draw.randint(0, greatest)) for moment in moments]


def claim_within_by_hand(book, bounds, paper):
    return sum(price * bound_by_hand(bounds, moment) for moment, price in paper) + rests_by_hand(book, paper)


def most_within_by_hand(book, bounds):
    """The most of a small book within bounds: all some that keep them are weighed."""
    return max(worth_by_hand(book, some) for some in every_some(book) if keeps_by_hand(book, bounds, some))


def under_by_hand(ring, i):
    """The moments of the ring that the stretch is over, one step behind the other."""
    size, stretches = ring
    name, begin, span, worth = stretches[i]
    return [begin + k if begin + k < size else begin + k - size for k in range(span)]


def ring_load_by_hand(ring, some, moment):
    return len([i for i in some if moment in under_by_hand(ring, i)])


def ring_rests_by_hand(ring, paper):
    tolls = [sum(price for moment, price in paper if moment in under_by_hand(ring, i)) for i in range(len(ring[1]))]
    return sum(max(stretch[3] - toll, 0) for stretch, toll in zip(ring[1], tolls))


def drawn_ring(draw, most=5, size=8):
    """A small ring by a seeded source."""
    size = draw.randint(1, size)
    spans = [draw.choice([1, size, draw.randint(1, size)]) for _ in range(draw.randint(0, most))]
    return (size, [(NAMES[i], draw.randrange(size), span, draw.randint(0, 9)) for i, span in enumerate(spans)])


def ring_choices_by_hand(ring, benches):
    """All choices of a small ring for so many benches."""
    return [some for some in every_some(ring[1])
            if all(ring_load_by_hand(ring, some, moment) <= benches for moment in range(ring[0]))]


def ring_paper_by_hand(ring, thing):
    return paper_by_hand(thing) and all(0 <= moment < ring[0] for moment, price in thing)


class NoTreeByHand(Exception):
    """The way to the first thing that can't stand in a tree."""


def told_of_tree(look, tree):
    """("claims", what a tree claims) or ("way", the way to its first fault).

    look tells of a thing and what is done where it stands what it claims, None where that is nothing, False of
    what can't stand there; and it writes down the things beneath it, each with what is done there.
    """
    come_to, claims = [], []

    def go(thing, done, way):
        come_to.append(way)
        beneath = []
        claimed = look(thing, done, beneath)
        if claimed is False or len(come_to) > 500:
            raise NoTreeByHand(way)
        if claimed is not None:
            claims.append(claimed)
        for number, (tree_there, done_there) in enumerate(beneath):
            go(tree_there, done_there, way + [number])

    try:
        go(tree, (), [])
    except NoTreeByHand as fault:
        return ("way", fault.args[0])
    return ("claims", max(claims))


def is_number_by_hand(thing, many):
    return type(thing) is int and 0 <= thing < many


def ring_tree_by_hand(ring, benches, tree):
    """What a tree for a ring claims, or the way to its first fault; done is a tuple of (number, whether in)."""
    size, stretches = ring

    def look(thing, done, beneath):
        inside = [i for i, is_in in done if is_in]
        decided = [i for i, is_in in done]
        if type(thing) is not tuple or len(thing) not in (2, 3) or type(thing[0]) is not str:
            return False
        if thing[0] == "prices" and len(thing) == 2 and ring_paper_by_hand(ring, thing[1]):
            claimed = sum(stretches[i][3] for i in inside)
            for moment, price in thing[1]:
                claimed += price * benches - price * ring_load_by_hand(ring, inside, moment)
            for i in range(len(stretches)):
                if i not in decided:
                    toll = sum(price for moment, price in thing[1] if moment in under_by_hand(ring, i))
                    claimed += max(stretches[i][3] - toll, 0)
            return claimed
        if thing[0] == "crowd" and len(thing) == 2 and is_number_by_hand(thing[1], size):
            return None if ring_load_by_hand(ring, inside, thing[1]) > benches else False
        if thing[0] != "split" or len(thing) != 3 or not is_number_by_hand(thing[1], len(stretches)):
            return False
        if thing[1] in decided or type(thing[2]) is not list or len(thing[2]) != 2:
            return False
        beneath.extend([(thing[2][0], done + ((thing[1], True),)), (thing[2][1], done + ((thing[1], False),))])
        return None

    return told_of_tree(look, tree)


def drawn_ring_tree(draw, ring, benches, done=()):
    """A tree for a ring by a seeded source: done is a tuple of (number, whether in)."""
    size, stretches = ring
    inside = [i for i, is_in in done if is_in]
    crowded = [moment for moment in range(size) if ring_load_by_hand(ring, inside, moment) > benches]
    if crowded and draw.random() < 0.7:
        return ("crowd", draw.choice(crowded))
    free = [i for i in range(len(stretches)) if i not in [number for number, is_in in done]]
    if free and draw.random() < 0.7:
        i = draw.choice(free)
        return ("split", i, [drawn_ring_tree(draw, ring, benches, done + ((i, is_in),)) for is_in in (True, False)])
    return ("prices", [(moment, draw.randint(1, 9)) for moment in range(size) if draw.random() < 0.4])


def tuples_in_tree(tree):
    """How many tuples of a tree are walked, one that stands several times as often as it stands."""
    return 1 + (sum(tuples_in_tree(beneath) for beneath in tree[2]) if type(tree[-1]) is list and len(tree) == 3 else 0)


def ways_of(tree):
    """The ways to all tuples of a tree, in the order in which they are come to."""
    found = [[]]
    if tree[0] in ("split", "sit"):
        for number, beneath in enumerate(tree[2]):
            found.extend([number] + way for way in ways_of(beneath))
    return found


def with_at(tree, way, thing):
    """The tree with another thing at the end of the way."""
    if not way:
        return thing
    trees = [with_at(beneath, way[1:], thing) if number == way[0] else deepcopy(beneath)
             for number, beneath in enumerate(tree[2])]
    return (tree[0], tree[1], trees)


def drawn_wishes(draw, book, most=4):
    benches = draw.randint(1, most)
    return (benches, [[bench for bench in range(benches) if draw.random() < 0.6] for _ in book])


def wishes_by_hand(book, thing):
    """Whether anything is wishes for the book."""
    if type(thing) is not tuple or len(thing) != 2 or type(thing[0]) is not int or thing[0] not in (1, 2, 3, 4):
        return False
    if type(thing[1]) is not list or len(thing[1]) != len(book):
        return False
    return all(type(one) is list and all(is_number_by_hand(bench, thing[0]) for bench in one)
               and one == sorted(set(one)) for one in thing[1])


def seating_by_hand(book, wishes, thing):
    """Whether anything is a seating, each pair looked at."""
    if type(thing) is not list or len(thing) != len(book):
        return False
    if not all(bench is None or type(bench) is int and bench in wishes[1][i] for i, bench in enumerate(thing)):
        return False
    return not any(thing[i] is not None and thing[i] == thing[k] and meet_by_hand(book[i], book[k])
                   for k in range(len(book)) for i in range(k))


def every_seating(book, wishes):
    """All seatings of a small book."""
    return [list(one) for one in product(*[[None] + wished for wished in wishes[1]])
            if seating_by_hand(book, wishes, list(one))]


def seating_worth_by_hand(book, seating):
    return sum(stretch[3] for stretch, bench in zip(book, seating) if bench is not None)


def bench_paper_by_hand(thing):
    """Whether anything is a bench paper."""
    if type(thing) is not list or len(thing) > 192:
        return False
    for part in thing:
        if type(part) is not tuple or len(part) != 3 or [type(one) for one in part] != [int, int, int]:
            return False
        if part[0] not in (0, 1, 2, 3) or not -FAR <= part[1] < FAR or not 1 <= part[2] <= 10 * FAR:
            return False
    return all(one[0] < other[0] or one[0] == other[0] and one[1] < other[1] for one, other in zip(thing, thing[1:]))


def bench_rest_by_hand(stretch, benches, paper):
    tolls = [toll_by_hand(stretch, [(moment, price) for on, moment, price in paper if on == bench])
             for bench in benches]
    return max(0, stretch[3] - min(tolls)) if tolls else 0


def bench_claim_by_hand(book, wishes, paper):
    prices = sum(price for bench, moment, price in paper)
    return prices + sum(bench_rest_by_hand(stretch, wishes[1][i], paper) for i, stretch in enumerate(book))


def drawn_bench_paper(draw, last=9):
    places = [(bench, moment) for bench in range(4) for moment in range(-last - 1, last + 1)]
    return [(bench, moment, draw.randint(1, 9)) for bench, moment in sorted(draw.sample(places, draw.randint(0, 8)))]


def wish_tree_by_hand(book, wishes, tree):
    """What a tree for wishes claims, or the way to its first fault; done is a tuple of (number, bench or None)."""
    benches, lists = wishes

    def is_put(done, bench, asked):
        return any(where == bench and asked(book[i]) for i, where in done)

    def look(thing, done, beneath):
        decided = [i for i, where in done]
        if type(thing) is not tuple or len(thing) not in (2, 3) or type(thing[0]) is not str:
            return False
        if thing[0] == "prices" and len(thing) == 2 and bench_paper_by_hand(thing[1]):
            claimed = sum(book[i][3] for i, where in done if where is not None)
            for bench, moment, price in thing[1]:
                if not is_put(done, bench, lambda one: one[1] <= moment < one[2]):
                    claimed += price
            for i in range(len(book)):
                if i not in decided:
                    free = [bench for bench in lists[i]
                            if not is_put(done, bench, lambda one: meet_by_hand(one, book[i]))]
                    claimed += bench_rest_by_hand(book[i], free, thing[1])
            return claimed
        if len(thing) != 3 or not is_number_by_hand(thing[1], len(book)):
            return False
        if thing[0] == "meet":
            if not is_number_by_hand(thing[2], len(book)) or not thing[1] < thing[2]:
                return False
            where = dict(done)
            on_one = where.get(thing[1]) is not None and where.get(thing[1]) == where.get(thing[2])
            return None if on_one and meet_by_hand(book[thing[1]], book[thing[2]]) else False
        if thing[0] != "sit" or thing[1] in decided or type(thing[2]) is not list:
            return False
        ways = lists[thing[1]] + [None]
        if len(thing[2]) != len(ways):
            return False
        beneath.extend((thing[2][k], done + ((thing[1], ways[k]),)) for k in range(len(ways)))
        return None

    return told_of_tree(look, tree)


def drawn_wish_tree(draw, book, wishes, done=()):
    """A tree for wishes by a seeded source: done is a tuple of (number, bench or None)."""
    meeting = [(i, k) for i, one in done for k, other in done
               if i < k and one is not None and one == other and meet_by_hand(book[i], book[k])]
    if meeting and draw.random() < 0.7:
        return ("meet", *draw.choice(meeting))
    free = [i for i in range(len(book)) if i not in [number for number, where in done]]
    if free and len(done) < 3 and draw.random() < 0.7:
        i = draw.choice(free)
        ways = wishes[1][i] + [None]
        return ("sit", i, [drawn_wish_tree(draw, book, wishes, done + ((i, where),)) for where in ways])
    return ("prices", drawn_bench_paper(draw))
