"""Some of a book and choices, by point 2.1."""

import unittest

from benchworth.choices import is_choice, worth_of
from tests.common import (FAR, NAMES, ODD_THINGS, SIXTY, Told, drawn_books, every_some, greatest_by_hand, piled_book,
                          whole_book)

BOOK = [("a", 0, 5, 10), ("b", 5, 9, 20), ("c", 4, 6, 40), ("d", 0, 9, 0), ("e", 20, 30, 80)]


class Choices(Told, unittest.TestCase):
    def right(self, book, benches, thing):
        with self.subTest((benches, thing)):
            self.assert_told(True, is_choice, book, benches, thing)

    def wrong(self, book, benches, thing):
        with self.subTest((benches, thing)):
            self.assert_told(False, is_choice, book, benches, thing)

    def test_none_of_a_book(self):
        for benches in range(25):
            self.right([], benches, [])
            self.right(BOOK, benches, [])

    def test_no_list(self):
        for thing in ODD_THINGS + [0, 1, (0,), (0, 1), {0: 0}, {0}, "01"]:
            self.wrong(BOOK, 24, thing)
            self.wrong([], 24, thing)

    def test_numbers_below_and_beyond(self):
        self.right(BOOK, 24, [0])
        self.right(BOOK, 24, [4])
        for some in ([-1], [-5], [-1, 0], [5], [0, 5], [6], [SIXTY], [-SIXTY], [0, 1, 2, 3, 4, 5]):
            self.wrong(BOOK, 24, some)
        self.wrong([], 24, [0])
        self.wrong([], 24, [-1])
        self.right(whole_book(), 24, [23])
        self.wrong(whole_book(), 24, [24])

    def test_numbers_twice_or_not_rising(self):
        for some in ([0, 0], [4, 4], [1, 0], [0, 2, 1], [0, 1, 1], [1, 1, 2], [4, 3, 2, 1, 0], [3, 4, 0]):
            self.wrong(BOOK, 24, some)
        self.right(BOOK, 24, [0, 1, 2, 3, 4])

    def test_other_things_among_the_numbers(self):
        for thing in ODD_THINGS + [[], [0]]:
            self.wrong(BOOK, 24, [thing])
            self.wrong(BOOK, 24, [0, thing])
            self.wrong(BOOK, 24, [thing, 2])

    def test_true_and_false(self):
        self.wrong(BOOK, 24, [False])
        self.wrong(BOOK, 24, [True])
        self.wrong(BOOK, 24, [False, 1])
        self.wrong(BOOK, 24, [0, True])
        self.wrong(BOOK, 24, [False, True])

    def test_loads_at_the_benches_and_above(self):
        for some, load in (([0], 1), ([0, 1], 1), ([0, 2], 2), ([1, 2], 2), ([0, 1, 2], 2), ([0, 1, 3], 2),
                           ([0, 1, 2, 3], 3), ([0, 1, 2, 3, 4], 3), ([3, 4], 1), ([4], 1)):
            for benches in range(25):
                if benches >= load:
                    self.right(BOOK, benches, some)
                else:
                    self.wrong(BOOK, benches, some)

    def test_no_bench(self):
        self.right(BOOK, 0, [])
        for number in range(5):
            self.wrong(BOOK, 0, [number])

    def test_twenty_four_over_one_moment(self):
        piled = piled_book()
        every = list(range(24))
        self.right(piled, 24, every)
        self.wrong(piled, 23, every)
        self.right(piled, 23, every[1:])
        self.wrong(piled, 0, [5])
        self.right(piled, 1, [5])
        self.wrong(piled, 1, [5, 9])

    def test_a_crowd_that_is_there_for_one_moment(self):
        book = [("a", -FAR, 1, 1), ("b", 0, FAR, 1), ("c", 1, FAR, 1)]
        self.wrong(book, 1, [0, 1])
        self.right(book, 1, [0, 2])
        self.right(book, 2, [0, 1, 2])

    def test_against_loads_by_hand(self):
        for book in drawn_books(21, 30, most=5):
            for some in every_some(book):
                load = greatest_by_hand(book, some)
                for benches in range(6):
                    self.assertIs(is_choice(book, benches, some), load <= benches)

    def test_a_changed_book_is_another_one(self):
        book = [("a", 0, 5, 1), ("b", 5, 9, 1)]
        some = [0, 1]
        self.right(book, 1, some)
        book[1] = ("b", 4, 9, 1)
        self.wrong(book, 1, some)
        some.pop()
        self.right(book, 1, some)


class Worths(Told, unittest.TestCase):
    def test_of_none(self):
        self.assert_told(0, worth_of, [], [])
        self.assert_told(0, worth_of, BOOK, [])

    def test_of_some(self):
        self.assert_told(10, worth_of, BOOK, [0])
        self.assert_told(0, worth_of, BOOK, [3])
        self.assert_told(80, worth_of, BOOK, [4])
        self.assert_told(50, worth_of, BOOK, [0, 2])
        self.assert_told(100, worth_of, BOOK, [1, 3, 4])

    def test_of_all(self):
        self.assert_told(150, worth_of, BOOK, [0, 1, 2, 3, 4])
        self.assert_told(300, worth_of, piled_book(), list(range(24)))

    def test_of_the_greatest(self):
        book = [(name, 0, 1, FAR) for name in NAMES[:24]]
        self.assert_told(24 * FAR, worth_of, book, list(range(24)))

    def test_a_changed_book_is_another_one(self):
        book = [("a", 0, 5, 1), ("b", 5, 9, 2)]
        self.assert_alike(worth_of(book, [0, 1]), 3)
        book[0] = ("a", 0, 5, 100)
        self.assert_alike(worth_of(book, [0, 1]), 102)


if __name__ == "__main__":
    unittest.main()
