"""Slack of a paper against a choice, by point 4.3."""

import random
import unittest

from benchworth.papers import claim
from benchworth.slack import slack_of
from tests.common import (FAR, Told, drawn_books, drawn_paper, every_some, greatest_by_hand, load_by_hand,
                          piled_book, toll_by_hand, worth_by_hand)

BOOK = [("a", 0, 5, 10), ("b", 5, 9, 20), ("c", 4, 6, 40), ("d", 0, 9, 0), ("e", 20, 30, 80)]


def slack_by_hand(book, benches, paper, choice):
    every = [("moment", moment) for moment, price in paper if load_by_hand(book, choice, moment) < benches]
    every += [("left", i) for i in range(len(book)) if i not in choice
              and book[i][3] - toll_by_hand(book[i], paper) > 0]
    every += [("dear", i) for i in choice if toll_by_hand(book[i], paper) > book[i][3]]
    return every


class Slack(Told, unittest.TestCase):
    def slack(self, expected, benches, paper, choice, book=BOOK):
        with self.subTest((benches, paper, choice)):
            self.assert_told(expected, slack_of, book, benches, paper, choice)
            short = claim(book, benches, paper) - worth_by_hand(book, choice)
            if expected is None:
                self.assertEqual(short, 0)
            else:
                self.assertGreater(short, 0)

    def test_none(self):
        self.slack(None, 0, [], [], [])
        self.slack(None, 24, [], [], [])
        self.slack(None, 3, [], [0, 1, 2, 3, 4])
        self.slack(None, 3, [], [0, 1, 2, 4])
        self.slack(None, 1, [(4, 10), (5, 20), (20, 80)], [2, 4])

    def test_none_where_there_are_no_benches(self):
        book = [("a", 0, 5, 10), ("b", 3, 9, 20)]
        self.slack(None, 0, [(0, 10), (8, 20)], [], book)
        self.slack(None, 0, [(4, 20)], [], book)
        self.slack(("left", 1), 0, [(4, 19)], [], book)

    def test_moments(self):
        paper = [(4, 40), (8, 20), (20, 80)]
        self.slack(("moment", 8), 1, paper, [2, 4])
        self.slack(("moment", 4), 1, paper, [1, 4])
        self.slack(("moment", 4), 1, paper, [])
        self.slack(("moment", 20), 1, [(4, 40), (20, 80)], [2])

    def test_a_moment_with_just_as_many_has_none(self):
        book = [("a", 0, 5, 3), ("b", 4, 9, 3)]
        self.slack(None, 2, [(4, 3)], [0, 1], book)
        self.slack(("moment", 4), 3, [(4, 3)], [0, 1], book)
        self.slack(("moment", 3), 2, [(3, 1), (4, 2)], [0, 1], book)
        self.slack(("moment", 5), 2, [(4, 2), (5, 1)], [0, 1], book)

    def test_moments_told_are_moments_and_not_numbers_of_prices(self):
        self.slack(("moment", -7), 1, [(-7, 1)], [0])
        self.slack(("moment", 0), 1, [(0, 1)], [])
        self.slack(("moment", 99), 1, [(20, 80), (99, 1)], [4])

    def test_left(self):
        self.slack(("left", 1), 1, [(4, 40)], [2, 4])
        self.slack(("left", 0), 1, [], [1])
        self.slack(("left", 4), 1, [(4, 40), (5, 20)], [2])
        self.slack(("left", 0), 2, [], [])
        self.slack(("left", 2), 1, [], [0, 1, 4])

    def test_a_rest_of_0_is_not_left(self):
        book = [("a", 0, 5, 3), ("b", 0, 5, 3), ("c", 0, 5, 4)]
        self.slack(None, 1, [(2, 4)], [2], book)
        self.slack(None, 1, [(2, 3)], [2], book)
        self.slack(("left", 0), 1, [(2, 2)], [2], book)
        self.slack(("left", 2), 1, [(2, 3)], [0], book)

    def test_dear(self):
        book = [("a", 0, 5, 3), ("b", 5, 9, 3), ("c", 5, 9, 4)]
        self.slack(("dear", 0), 1, [(2, 4), (7, 4)], [0, 2], book)
        self.slack(("dear", 1), 1, [(2, 3), (7, 4)], [0, 1], book)
        self.slack(("dear", 0), 1, [(2, 4), (7, 4)], [0, 1], book)
        self.slack(None, 1, [(2, 3), (7, 4)], [0, 2], book)

    def test_the_order_of_kinds(self):
        book = [("a", 0, 5, 3), ("b", 5, 9, 3), ("c", 10, 12, 4)]
        # The dear one is the first stretch, the left one the last, the moment far behind both.
        self.slack(("moment", 50), 1, [(2, 4), (50, 1)], [0, 1], book)
        self.slack(("left", 2), 1, [(2, 4)], [0, 1], book)
        self.slack(("dear", 0), 1, [(2, 4)], [0, 1, 2], book)
        self.slack(("moment", 50), 1, [(2, 4), (50, 1)], [0, 1, 2], book)
        self.slack(("moment", 50), 1, [(2, 3), (50, 1)], [0, 1], book)

    def test_far_out(self):
        piled, every = piled_book(), list(range(24))
        self.slack(None, 24, [(0, 1)], every, piled)
        self.slack(("dear", 0), 24, [(0, 2)], every, piled)
        self.slack(("moment", -FAR), 24, [(-FAR, 1), (0, 1)], every, piled)
        self.slack(("moment", FAR - 1), 24, [(0, 1), (FAR - 1, 1)], every, piled)
        self.slack(("left", 1), 23, [(0, 1)], every[:1] + every[2:], piled)
        self.slack(None, 23, [(0, 1)], every[1:], piled)

    def test_drawn(self):
        draw = random.Random(71)
        kinds = {"moment": 0, "left": 0, "dear": 0, None: 0}
        for book in drawn_books(72, 80, most=5, last=4):
            papers = [drawn_paper(draw, most=many, last=4) for many in (0, 1, 1, 2, 3)]
            for choice in every_some(book):
                for paper in papers:
                    benches = greatest_by_hand(book, choice)
                    for more in (0, 0, 1):
                        every = slack_by_hand(book, benches + more, paper, choice)
                        expected = every[0] if every else None
                        kinds[every[0][0] if every else None] += 1
                        self.slack(expected, benches + more, paper, choice, book)
        self.assertGreater(min(kinds.values()), 20, kinds)


if __name__ == "__main__":
    unittest.main()
