"""Seats, by point 3.1 and 0.4 (b)."""

import unittest
from itertools import product

from benchworth.seats import are_seats, seats_for
from tests.common import (FAR, NAMES, ODD_THINGS, SIXTY, Told, drawn_books, every_some, greatest_by_hand, piled_book,
                          seats_by_hand, whole_book)

BOOK = [("a", 0, 5, 10), ("b", 5, 9, 20), ("c", 4, 6, 40), ("d", 0, 9, 0), ("e", 20, 30, 80)]


class LooksAtSeats(Told, unittest.TestCase):
    def right(self, some, benches, thing, book=BOOK):
        with self.subTest((some, benches, thing)):
            self.assert_told(True, are_seats, book, some, benches, thing)

    def wrong(self, some, benches, thing, book=BOOK):
        with self.subTest((some, benches, thing)):
            self.assert_told(False, are_seats, book, some, benches, thing)

    def test_of_none(self):
        for benches in (0, 1, 24):
            self.right([], benches, [])
            self.right([], benches, [], [])
            self.wrong([], benches, [0])

    def test_no_list(self):
        for thing in ODD_THINGS + [0, 1, (0,), (0, 0), "00", {0: 0, 1: 0}, {0}, range(2)]:
            self.wrong([0, 4], 2, thing)
            self.wrong([], 2, thing)

    def test_too_few_and_too_many(self):
        for thing in ([], [0], [0, 0, 0], [0, 1, 0], [0, 1, 0, 1, 0]):
            self.wrong([0, 1], 2, thing)
        self.right([0, 1], 2, [0, 0])
        self.wrong([0, 1], 2, [])

    def test_bounds_of_benches(self):
        for benches in (1, 2, 3, 23, 24):
            self.right([0], benches, [0])
            self.right([0], benches, [benches - 1])
            self.wrong([0], benches, [benches])
            self.wrong([0], benches, [-1])
            self.wrong([0], benches, [-benches])
            self.wrong([0], benches, [SIXTY])
            self.wrong([0], benches, [-SIXTY])
        self.wrong([0, 1], 2, [0, 2])
        self.wrong([0, 1], 2, [-1, 0])

    def test_no_bench(self):
        self.right([], 0, [])
        for bench in (0, -1, 1):
            self.wrong([0], 0, [bench])

    def test_other_things_for_benches(self):
        for thing in ODD_THINGS + [[], [0]]:
            self.wrong([0], 24, [thing])
            self.wrong([0, 4], 24, [0, thing])
            self.wrong([0, 4], 24, [thing, 0])

    def test_true_and_false(self):
        self.wrong([0], 2, [True])
        self.wrong([0], 2, [False])
        self.wrong([0, 2], 2, [0, True])
        self.wrong([0, 2], 2, [False, 1])

    def test_two_that_meet(self):
        self.wrong([0, 2], 2, [0, 0])
        self.wrong([0, 2], 2, [1, 1])
        self.right([0, 2], 2, [0, 1])
        self.right([0, 2], 2, [1, 0])

    def test_two_that_touch(self):
        self.right([0, 1], 1, [0, 0])
        self.right([0, 1], 2, [1, 1])
        self.right([0, 1], 2, [0, 1])

    def test_the_benches_stand_in_the_order_of_some(self):
        self.right([0, 2, 4], 2, [0, 1, 0])
        self.right([1, 2, 4], 2, [0, 1, 1])
        self.wrong([1, 2, 4], 2, [0, 0, 1])
        self.wrong([0, 1, 2], 2, [0, 1, 1])
        self.wrong([0, 1, 2], 2, [1, 0, 1])
        self.right([0, 1, 2], 2, [1, 1, 0])
        self.wrong([0, 1, 3], 2, [0, 1, 0])

    def test_more_benches_than_wanted(self):
        self.right([0, 2], 24, [23, 22])
        self.wrong([0, 2], 24, [23, 23])

    def test_all_on_twenty_four_benches(self):
        piled, every = piled_book(), list(range(24))
        self.right(every, 24, every, piled)
        self.right(every, 24, every[::-1], piled)
        self.wrong(every, 24, every[:23] + [0], piled)
        self.wrong(every, 24, [1] + every[1:], piled)
        self.wrong(every, 23, every, piled)

    def test_against_each_pair_by_hand(self):
        for book in drawn_books(41, 25, most=4):
            for some in every_some(book):
                for benches in (1, 2, 3):
                    for seats in product(range(-1, benches + 1), repeat=len(some)):
                        expected = seats_by_hand(book, some, benches, list(seats))
                        self.assertIs(are_seats(book, some, benches, list(seats)), expected)


class ToldSeats(Told, unittest.TestCase):
    def seated(self, book, some, load):
        with self.subTest((book, some)):
            seats = self.asked(seats_for, book, some)
            self.assertIs(type(seats), list)
            self.assertTrue(seats_by_hand(book, some, load, seats), seats)
            self.assert_told(True, are_seats, book, some, load, seats)

    def test_of_none(self):
        self.assert_told([], seats_for, [], [])
        self.assert_told([], seats_for, BOOK, [])

    def test_of_one(self):
        for number in range(5):
            self.assert_told([0], seats_for, BOOK, [number])

    def test_of_some_and_all(self):
        self.seated(BOOK, [0, 1], 1)
        self.seated(BOOK, [0, 1, 4], 1)
        self.seated(BOOK, [1, 2], 2)
        self.seated(BOOK, [0, 1, 2], 2)
        self.seated(BOOK, [0, 1, 2, 3, 4], 3)

    def test_all_that_touch_sit_on_one_bench(self):
        book = [(NAMES[i], 24 - i, 25 - i, 1) for i in range(24)]
        self.assert_told([0] * 24, seats_for, book, list(range(24)))

    def test_twenty_four_over_one_moment(self):
        self.seated(piled_book(), list(range(24)), 24)
        seats = seats_for(piled_book(), list(range(24)))
        self.assertEqual(sorted(seats), list(range(24)))

    def test_on_just_two_benches(self):
        self.seated(whole_book(), list(range(24)), 2)
        self.seated(whole_book()[::-1], list(range(24)), 2)

    def test_orders_of_begins_and_ends(self):
        # Long ones that come first, last, and between: begins, not numbers or ends, are the order.
        self.seated([("a", 0, 100, 1), ("b", 1, 2, 1), ("c", 2, 3, 1), ("d", 3, 99, 1)], [0, 1, 2, 3], 2)
        self.seated([("d", 3, 99, 1), ("c", 2, 3, 1), ("b", 1, 2, 1), ("a", 0, 100, 1)], [0, 1, 2, 3], 2)
        self.seated([("a", 4, 6, 1), ("b", 0, 2, 1), ("c", 1, 5, 1), ("d", 2, 4, 1), ("e", 5, 6, 1)],
                    [0, 1, 2, 3, 4], 2)

    def test_far_out(self):
        self.seated([("a", -FAR, FAR, 1), ("b", -FAR, 0, 1), ("c", 0, FAR, 1)], [0, 1, 2], 2)

    def test_of_drawn_books(self):
        for book in drawn_books(42, 40, most=6):
            for some in every_some(book):
                self.seated(book, some, greatest_by_hand(book, some))

    def test_of_large_drawn_books(self):
        for book in drawn_books(43, 60, most=24, last=30):
            some = list(range(len(book)))
            self.seated(book, some, greatest_by_hand(book, some))
            self.seated(book, some[::2], greatest_by_hand(book, some[::2]))


if __name__ == "__main__":
    unittest.main()
