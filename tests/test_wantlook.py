"""Looks at what a stretch is said to have to be worth, by points 8.2 and 0.4 (e)."""

import random
import unittest
from copy import deepcopy

from benchworth.wanted import beside, wanted
from benchworth.wantlook import lets_wanted
from tests.common import (FAR, ODD_THINGS, SIXTY, Told, choice_by_hand, claim_by_hand, claim_within_by_hand,
                          drawn_books, drawn_far_book, keeps_by_hand, otherwise, paper_by_hand, piled_book,
                          some_by_hand, whole_book, worth_by_hand)

# On one bench b and d are worth 29 without a; beside a only d is left.
BOOK = [("a", 0, 5, 10), ("b", 4, 9, 20), ("c", 2, 6, 3), ("d", 20, 30, 9)]
WITHOUT = (29, [0, 2], [(4, 20), (20, 9)])
ALONG = (9, [2], [(4, 20), (20, 9)])
TOLD = ("wanted", 20, WITHOUT, ALONG)


def is_most_by_hand(rest, thing):
    return (type(thing) is tuple and len(thing) == 3 and type(thing[0]) is int and some_by_hand(rest, thing[1])
            and worth_by_hand(rest, thing[1]) == thing[0] and paper_by_hand(thing[2]))


def bounds_by_hand(book, benches, i):
    """The bounds beside a stretch, with a step at each of its ends, and far ahead of them."""
    name, begin, end, worth = book[i]
    return [(-FAR - 1, benches), (begin, benches - 1), (end, benches)]


def wanted_by_hand(book, benches, i, thing):
    """Whether anything is right as what the stretch would have to be worth."""
    if benches == 0 or thing is None:
        return benches == 0 and thing is None
    if type(thing) is not tuple or len(thing) != 4 or type(thing[0]) is not str or thing[0] != "wanted":
        return False
    word, least, without, along = thing
    rest, bounds = book[:i] + book[i + 1:], bounds_by_hand(book, benches, i)
    if type(least) is not int or not is_most_by_hand(rest, without) or not is_most_by_hand(rest, along):
        return False
    return (choice_by_hand(rest, benches, without[1]) and keeps_by_hand(rest, bounds, along[1])
            and claim_by_hand(rest, benches, without[2]) == without[0]
            and claim_within_by_hand(rest, bounds, along[2]) == along[0] and least == without[0] - along[0])


class LooksAtWanted(Told, unittest.TestCase):
    def right(self, thing, book=BOOK, benches=1, i=0):
        with self.subTest(thing):
            self.assertTrue(wanted_by_hand(book, benches, i, thing))
            self.assert_told(True, lets_wanted, book, benches, i, thing)

    def wrong(self, thing, book=BOOK, benches=1, i=0):
        with self.subTest(thing):
            self.assertFalse(wanted_by_hand(book, benches, i, thing))
            self.assert_told(False, lets_wanted, book, benches, i, thing)

    def without(self, at, part):
        """What is written by hand, with another part of the most without the stretch."""
        return ("wanted", 20, WITHOUT[:at] + (part,) + WITHOUT[at + 1:], ALONG)

    def along(self, at, part):
        """What is written by hand, with another part of the most beside the stretch."""
        return ("wanted", 20, WITHOUT, ALONG[:at] + (part,) + ALONG[at + 1:])

    def test_what_is_told(self):
        for book in [BOOK, whole_book()[:6], piled_book(5)] + drawn_books(131, 40):
            for i in range(len(book)):
                for benches in (0, 1, 2, 3, 24):
                    self.right(wanted(book, benches, i), book, benches, i)

    def test_what_is_told_of_twenty_four(self):
        draw = random.Random(132)
        for book in (whole_book(), piled_book(), drawn_far_book(draw), drawn_far_book(draw)):
            for i in (0, 7, 23):
                for benches in (1, 2, 12, 24):
                    self.right(wanted(book, benches, i), book, benches, i)

    def test_what_is_written_by_hand(self):
        self.right(TOLD)

    def test_of_no_benches(self):
        for i in range(4):
            self.right(None, benches=0, i=i)
            self.wrong(TOLD, benches=0, i=i)
            for thing in ODD_THINGS[1:] + [0, [], ("wanted", 0, (0, [], []), (0, [], [])), (), "wanted", "None"]:
                self.wrong(thing, benches=0, i=i)

    def test_none_of_benches(self):
        for benches in (1, 2, 3, 24):
            self.wrong(None, benches=benches)
            self.wrong(None, book=BOOK[:1], benches=benches)

    def test_another_stretch_another_book_other_benches(self):
        for i in (1, 2, 3):
            self.wrong(TOLD, i=i)
        for benches in (2, 3, 24):
            self.wrong(TOLD, benches=benches)
        self.wrong(TOLD, book=BOOK[:3] + [("d", 20, 30, 10)])
        self.wrong(TOLD, book=[("a", 5, 7, 10)] + BOOK[1:])
        self.wrong(TOLD, book=[("a", 0, 4, 10)] + BOOK[1:])
        # Its own worth does not count, nor do moments at which it meets nothing else.
        self.right(TOLD, book=[("a", 0, 5, 77)] + BOOK[1:])
        self.right(TOLD, book=[("a", -FAR, 5, 0)] + BOOK[1:])

    def test_another_least(self):
        for least in (19, 21, 0, -20, 10, 9, 29, SIXTY, -SIXTY, None, True, False, "20", [20], (20,)):
            self.wrong(("wanted", least, WITHOUT, ALONG))

    def test_true_and_false_as_least(self):
        book = [("a", 0, 5, 10), ("b", 4, 9, 1)]
        told = ("wanted", 1, (1, [0], [(4, 1)]), (0, [], [(4, 1)]))
        self.right(told, book)
        self.wrong(("wanted", True) + told[2:], book)
        self.wrong(("wanted", 1, (True, [0], [(4, 1)]), told[3]), book)
        self.wrong(("wanted", 1, (1, [False], [(4, 1)]), told[3]), book)
        self.wrong(("wanted", 1, (1, [0], [(4, True)]), told[3]), book)
        self.wrong(("wanted", 1, told[2], (False, [], [(4, 1)])), book)
        self.wrong(("wanted", 1, told[2], (0, [], [(4, True)])), book)
        self.right(("wanted", 0, (0, [], []), (0, [], [])), [("a", 0, 5, 10)])
        self.wrong(("wanted", False, (0, [], []), (0, [], [])), [("a", 0, 5, 10)])

    def test_other_worths(self):
        for change in (1, -1):
            self.wrong(self.without(0, 29 + change))
            self.wrong(self.along(0, 9 + change))
            # Also where the least is made to fit.
            self.wrong(("wanted", 20 + change, (29 + change,) + WITHOUT[1:], ALONG))
            self.wrong(("wanted", 20 - change, WITHOUT, (9 + change,) + ALONG[1:]))
            self.wrong(("wanted", 20, (29 + change,) + WITHOUT[1:], (9 + change,) + ALONG[1:]))

    def test_other_some(self):
        for some in ([], [0], [2], [0, 1], [0, 1, 2], [2, 0], [0, 2, 2], [0, 2, 3], [-1, 0, 2], (0, 2), None, 0, "02",
                     [0, "2"], [0, None], [False, 2], {0: 2}):
            self.wrong(self.without(1, some))
        for some in ([], [0], [1], [0, 2], [1, 2], [2, 2], [3], [-1], (2,), None, 2, "2", ["2"], [None], [True],
                     {2: 2}):
            self.wrong(self.along(1, some))

    def test_some_that_are_worth_less_with_their_worth(self):
        self.wrong(("wanted", 11, (20, [0], WITHOUT[2]), ALONG))
        self.wrong(("wanted", 29, WITHOUT, (0, [], ALONG[2])))
        self.wrong(("wanted", 0, (9, [2], WITHOUT[2]), ALONG))

    def test_a_choice_for_more_benches(self):
        # b and c are worth 23 with a paper that claims as much, but they meet.
        book = [("a", 0, 5, 10), ("b", 4, 9, 20), ("c", 2, 6, 3)]
        self.right(("wanted", 20, (20, [0], [(4, 20)]), (0, [], [(4, 20)])), book)
        self.wrong(("wanted", 23, (23, [0, 1], []), (0, [], [(4, 20)])), book)

    def test_some_that_do_not_keep_the_bounds(self):
        # Beside a on one bench b can't sit, whatever a paper claims.
        book = [("a", 0, 5, 10), ("b", 4, 9, 20), ("c", 2, 6, 3)]
        self.wrong(("wanted", 0, (20, [0], [(4, 20)]), (20, [0], [(8, 20)])), book)
        self.wrong(("wanted", 0, (20, [0], [(4, 20)]), (20, [0], [(5, 20)])), book)

    def test_papers_that_claim_otherwise(self):
        for paper in ([], [(4, 2)], [(20, 9)], [(4, 21), (20, 9)], [(4, 2), (20, 9)], [(4, 20), (20, 10)],
                      [(3, 20), (20, 9)], [(4, 20), (20, 9), (50, 1)], [(2, 3), (8, 20), (20, 9)]):
            self.wrong(self.without(2, paper))
        for paper in ([], [(20, 9)], [(4, 19), (20, 9)], [(5, 20), (20, 9)], [(4, 20), (20, 10)],
                      [(4, 20), (5, 1), (20, 9)], [(4, 20), (20, 9), (50, 1)], [(2, 20), (20, 9)]):
            self.wrong(self.along(2, paper))

    def test_other_papers_that_claim_just_as_much(self):
        # On one bench a price that falls by one gives back just one as a rest.
        self.right(self.without(2, [(4, 20)]))
        self.right(self.without(2, [(4, 19), (20, 8)]))
        self.right(self.without(2, [(4, 3)]))
        self.right(self.without(2, [(4, 20)] + [(20, 4), (29, 5)]))
        self.right(self.without(2, [(4, 3), (5, 17), (20, 9)]))
        self.right(self.along(2, [(4, 20), (29, 9)]))
        self.right(self.along(2, [(4, 20)]))
        # Prices where nobody may be, beside a, may be as dear as any, and stand where no stretch is.
        self.right(self.along(2, [(0, 10 * FAR), (1, 7), (4, 10 * FAR), (20, 9)]))
        self.wrong(self.along(2, [(0, 10 * FAR + 1), (1, 7), (4, 20), (20, 9)]))
        # Forty-eight prices are a paper too, forty-nine are none.
        far = [("a", 0, 100, 10), ("b", 20, 300, 5)]
        prices = [(moment, 1) for moment in range(20, 68)]
        self.right(("wanted", 5, (5, [0], [(20, 5)]), (0, [], prices)), far)
        self.wrong(("wanted", 5, (5, [0], [(20, 5)]), (0, [], prices + [(68, 1)])), far)

    def test_papers_that_are_none(self):
        for paper in ([(20, 9), (4, 20)], [(4, 10), (4, 10), (20, 9)], ((4, 20), (20, 9)), [[4, 20], (20, 9)], None, 0,
                      "", {}, [(4, 20), (20, 9), None], [(4, 20), (20, 9), (50, 0)], [(4, 20), (20, 9), (FAR, 1)],
                      [(4, 20, 0), (20, 9)], {4: 20, 20: 9}, [(4, "20"), (20, 9)]):
            self.wrong(self.without(2, paper))
            self.wrong(self.along(2, paper))

    def test_another_word(self):
        for word in ("want", "Wanted", "wanted ", "", "row", b"wanted", None, 0, ["wanted"], ("wanted",), True):
            self.wrong((word,) + TOLD[1:])

    def test_another_form(self):
        for thing in (list(TOLD), TOLD[:3], TOLD + (0,), TOLD[1:], (TOLD,), [TOLD], TOLD[:2] + (ALONG, WITHOUT),
                      TOLD[:2] + (list(WITHOUT), ALONG), TOLD[:3] + (list(ALONG),), TOLD[:2] + (WITHOUT[:2], ALONG),
                      TOLD[:3] + (ALONG[:2],), TOLD[:2] + (WITHOUT + ([],), ALONG), TOLD[:3] + (ALONG + ([],),),
                      TOLD[:2] + (None, ALONG), TOLD[:3] + (None,), TOLD[:2] + (29, 9), TOLD[:3] + ((),),
                      TOLD[:2] + ((29, [0, 2]), (9, [2]))):
            self.wrong(thing)

    def test_other_things(self):
        for thing in ODD_THINGS + [[], 0, 1, 20, -1, SIXTY, "wanted", ("wanted",), ("wanted", 20), (1, 2, 3, 4),
                                   ("wanted", 0, None, None), ("wanted", 0, 1, 2), ("wanted", 0, (), ()),
                                   ((), (), (), ()), {"wanted": 20}, [[]] * 4, "want"]:
            for benches in (1, 2, 24):
                self.wrong(thing, benches=benches)

    def test_one_thing_otherwise(self):
        seen = {True: 0, False: 0}
        asked = [(BOOK, 1, 0), (BOOK, 1, 1), (BOOK, 2, 2), (BOOK[:1], 1, 0), (BOOK, 0, 0)]
        for book in drawn_books(133, 12, most=4, last=4):
            asked += [(book, benches, i) for i in range(len(book)) for benches in (1, 2)]
        for book, benches, i in asked:
            for thing in otherwise(wanted(book, benches, i)):
                expected = wanted_by_hand(book, benches, i, thing)
                self.assert_alike(lets_wanted(book, benches, i, deepcopy(thing)), expected)
                seen[expected] += 1
        self.assertGreater(seen[False], 1000)
        self.assertGreater(seen[True], 10)

    def test_at_the_ends_of_time(self):
        book = [("a", -FAR, FAR, 10), ("b", -FAR, 0, 20), ("c", FAR - 1, FAR, 3)]
        self.right(("wanted", 23, (23, [0, 1], [(-1, 20), (FAR - 1, 3)]), (0, [], [(-1, 20), (FAR - 1, 3)])), book)
        self.wrong(("wanted", 3, (23, [0, 1], [(-1, 20), (FAR - 1, 3)]), (20, [0], [(-1, 20), (FAR - 1, 3)])), book)
        self.assertEqual(beside(book, 1, 0), [(-FAR, 0), (FAR, 1)])


if __name__ == "__main__":
    unittest.main()
