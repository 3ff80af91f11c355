"""Seats on benches that open late, by point 3.2 and 0.4 (d)."""

import random
import unittest
from itertools import permutations, product

from benchworth.errors import Crowded
from benchworth.openings import late_seats
from tests.common import (FAR, NAMES, Told, drawn_books, every_some, load_by_hand, near_moments, piled_book,
                          seats_by_hand, whole_book)

BOOK = [("a", 0, 5, 10), ("b", 5, 9, 20), ("c", 4, 6, 40), ("d", 0, 9, 0), ("e", 20, 30, 80)]


def late_by_hand(book, some, openings, seats):
    return (seats_by_hand(book, some, len(openings), seats)
            and all(openings[bench] <= book[i][1] for i, bench in zip(some, seats)))


def crowded_by_hand(book, some, openings):
    """The first moment at which more are over than benches are open, or None."""
    for moment in near_moments(book):
        if load_by_hand(book, some, moment) > len([opening for opening in openings if opening <= moment]):
            return moment
    return None


class LateSeats(Told, unittest.TestCase):
    def seated(self, book, some, openings):
        with self.subTest((some, openings)):
            seats = self.asked(late_seats, book, some, openings)
            self.assertIs(type(seats), list)
            self.assertTrue(late_by_hand(book, some, openings, seats), seats)
            return seats

    def crowded(self, moment, book, some, openings):
        with self.subTest((some, openings)):
            refusal = self.refused(Crowded, late_seats, book, some, openings)
            self.assert_alike(refusal.moment, moment)

    def test_none_of_the_book(self):
        for openings in ([], [0], [FAR], [FAR, -FAR], [3] * 24):
            self.assert_told([], late_seats, BOOK, [], openings)
            self.assert_told([], late_seats, [], [], openings)

    def test_no_openings(self):
        self.crowded(0, BOOK, [0], [])
        self.crowded(5, BOOK, [1, 4], [])
        self.crowded(20, BOOK, [4], [])
        self.crowded(-7, [("a", 3, 4, 1), ("b", -7, 9, 1)], [0, 1], [])

    def test_around_a_begin(self):
        self.assert_told([0], late_seats, BOOK, [1], [4])
        self.assert_told([0], late_seats, BOOK, [1], [5])
        self.crowded(5, BOOK, [1], [6])
        self.crowded(0, BOOK, [0], [1])
        self.assert_told([0], late_seats, BOOK, [0], [0])
        self.assert_told([0], late_seats, BOOK, [0], [-1])

    def test_at_the_bounds(self):
        self.assert_told([0], late_seats, [("a", -FAR, 0, 1)], [0], [-FAR])
        self.crowded(-FAR, [("a", -FAR, 0, 1)], [0], [-FAR + 1])
        self.crowded(FAR - 1, [("a", FAR - 1, FAR, 1)], [0], [FAR])
        self.assert_told([0], late_seats, [("a", FAR - 1, FAR, 1)], [0], [FAR - 1])
        self.assert_told([1], late_seats, [("a", -FAR, FAR, 1)], [0], [FAR, -FAR])
        self.crowded(0, BOOK, [0], [FAR, FAR])

    def test_openings_in_any_order(self):
        self.assert_told([1], late_seats, BOOK, [0], [3, 0, 7])
        self.assert_told([2], late_seats, BOOK, [0], [3, 7, 0])
        self.assert_told([1, 0], late_seats, BOOK, [0, 2], [4, 0])
        self.assert_told([0, 1], late_seats, BOOK, [0, 2], [0, 4])
        for openings in permutations([0, 0, 4, 25]):
            self.seated(BOOK, [0, 1, 2, 3, 4], list(openings))

    def test_openings_alike(self):
        self.seated(BOOK, [0, 1, 2, 3, 4], [0, 0, 0])
        self.crowded(4, BOOK, [0, 1, 2, 3, 4], [0, 0])
        self.crowded(0, BOOK, [0, 1, 2, 3, 4], [1, 1, 1, 1])

    def test_a_bench_that_opens_under_a_stretch_is_not_for_it(self):
        self.crowded(0, BOOK, [3], [1])
        self.assert_told([1], late_seats, BOOK, [3], [1, 0])

    def test_a_bench_is_free_again_at_an_end(self):
        self.assert_told([0, 0], late_seats, BOOK, [0, 1], [0])
        self.assert_told([0, 0], late_seats, BOOK, [0, 1], [-5])
        self.crowded(4, BOOK, [0, 2], [0])
        self.crowded(4, BOOK, [0, 2], [0, 5])

    def test_the_first_such_moment(self):
        book = [("a", 0, 9, 1), ("b", 2, 9, 1), ("c", 4, 9, 1), ("d", 20, 30, 1), ("e", 20, 30, 1)]
        every = [0, 1, 2, 3, 4]
        self.crowded(2, book, every, [0])
        self.crowded(4, book, every, [0, 2])
        self.crowded(2, book, every, [0, 3, 4])
        self.crowded(0, book, every, [1, 1, 1])
        self.crowded(20, book, [0, 3, 4], [0, 21])
        self.seated(book, every, [4, 2, 0])
        self.crowded(2, book[::-1], every, [0])

    def test_a_moment_of_too_few_is_a_begin_of_one_of_these(self):
        # The book's other stretches begin earlier, and do not count.
        book = [("a", 0, 9, 1), ("b", 3, 5, 1), ("c", 1, 9, 1)]
        self.crowded(3, book, [1, 2], [1])
        self.crowded(3, book, [1], [])
        self.seated(book, [1, 2], [1, 3])

    def test_twenty_four(self):
        piled, every = piled_book(), list(range(24))
        self.seated(piled, every, [-FAR] * 24)
        self.seated(piled, every, [-FAR + i for i in every])
        self.assert_told(every[::-1], late_seats, piled, every, [-FAR + 23 - i for i in every])
        self.crowded(-FAR + 23, piled, every, [-FAR] * 23)
        self.crowded(-FAR + 23, piled, every, [-FAR] * 23 + [-FAR + 24])
        self.crowded(-FAR + 5, piled, every, [-FAR + i + i // 5 for i in every])
        self.seated(whole_book(), every, [10, 0] + [FAR] * 22)

    def test_alike_begins_on_twenty_four(self):
        book, every = [(name, 0, 1, 1) for name in NAMES[:24]], list(range(24))
        self.seated(book, every, [0] * 24)
        self.crowded(0, book, every, [0] * 23 + [1])
        self.crowded(0, book, every, [1] + [0] * 23)

    def test_against_all_lists_of_benches(self):
        draw = random.Random(51)
        refused = 0
        for book in drawn_books(52, 60, most=4, last=5):
            for some in every_some(book):
                openings = [draw.randint(-6, 3) for _ in range(draw.randint(0, 3))]
                moment = crowded_by_hand(book, some, openings)
                there_are = any(late_by_hand(book, some, openings, list(seats))
                                for seats in product(range(len(openings)), repeat=len(some)))
                self.assertEqual(there_are, moment is None)
                if there_are:
                    self.seated(book, some, openings)
                else:
                    refused += 1
                    self.crowded(moment, book, some, openings)
        self.assertGreater(refused, 50)

    def test_of_large_drawn_books(self):
        draw = random.Random(53)
        for book in drawn_books(54, 60, most=24, last=30):
            some = list(range(len(book)))
            openings = [draw.randint(-40, 0) for _ in range(24)][:draw.choice([8, 16, 24])]
            moment = crowded_by_hand(book, some, openings)
            if moment is None:
                self.seated(book, some, openings)
            else:
                self.crowded(moment, book, some, openings)

    def test_told_lists_are_the_askers_own(self):
        openings = [0, 0, 0]
        told = late_seats(BOOK, [0, 2], openings)
        told.append(7)
        self.assert_alike(openings, [0, 0, 0])
        openings[0] = 9
        openings.append(0)
        self.seated(BOOK, [0, 2], openings)


if __name__ == "__main__":
    unittest.main()
