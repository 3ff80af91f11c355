"""Papers and what they claim, by points 4.1, 4.2 and 0.4 (a)."""

import random
import unittest

from benchworth.papers import claim, is_paper, rest_of, toll_of
from tests.common import (FAR, ODD_THINGS, SIXTY, Told, drawn_books, drawn_paper, every_some, greatest_by_hand,
                          piled_book, toll_by_hand, worth_by_hand)

DEAR = 10 ** 13
BOOK = [("a", 0, 5, 10), ("b", 5, 9, 20), ("c", 4, 6, 40), ("d", 0, 9, 0), ("e", 20, 30, 80)]


class LooksAtPapers(Told, unittest.TestCase):
    def right(self, thing):
        with self.subTest(thing):
            self.assert_told(True, is_paper, thing)

    def wrong(self, thing):
        with self.subTest(thing):
            self.assert_told(False, is_paper, thing)

    def test_ordinary_ones(self):
        self.right([])
        self.right([(0, 1)])
        self.right([(-5, 3), (0, 3), (1, 100)])

    def test_how_many_prices(self):
        for many in (1, 2, 24, 25, 47, 48):
            self.right([(moment, 1) for moment in range(many)])
        self.wrong([(moment, 1) for moment in range(49)])
        self.wrong([(moment, 1) for moment in range(50)])

    def test_bounds_of_moments(self):
        self.right([(-FAR, 1)])
        self.wrong([(-FAR - 1, 1)])
        self.right([(FAR - 1, 1)])
        self.wrong([(FAR, 1)])
        self.wrong([(FAR + 1, 1)])
        self.right([(-FAR, 1), (FAR - 1, 1)])
        self.wrong([(-SIXTY, 1)])
        self.wrong([(SIXTY, 1)])
        self.wrong([(0, 1), (FAR, 1)])

    def test_bounds_of_prices(self):
        self.right([(0, 1)])
        self.wrong([(0, 0)])
        self.wrong([(0, -1)])
        self.right([(0, DEAR)])
        self.wrong([(0, DEAR + 1)])
        self.wrong([(0, SIXTY)])
        self.wrong([(0, 1), (1, 0)])
        self.wrong([(0, 0), (1, 1)])

    def test_moments_alike_or_falling(self):
        self.wrong([(3, 1), (3, 1)])
        self.wrong([(3, 1), (3, 2)])
        self.wrong([(3, 1), (2, 2)])
        self.wrong([(1, 1), (3, 1), (3, 2)])
        self.wrong([(3, 1), (3, 2), (4, 1)])
        self.wrong([(1, 1), (3, 1), (2, 1)])
        self.wrong([(2, 1), (1, 1), (3, 1)])
        self.right([(1, 3), (2, 2), (3, 1)])

    def test_true_and_false(self):
        for part in ((True, 1), (False, 1), (0, True), (0, False), (True, True)):
            self.wrong([part])
            self.wrong([(-5, 1), part])
            self.wrong([part, (5, 1)])

    def test_lists_for_tuples_and_tuples_for_the_list(self):
        self.wrong([[0, 1]])
        self.wrong([(0, 1), [1, 1]])
        self.wrong(())
        self.wrong(((0, 1),))
        self.wrong((0, 1))

    def test_other_parts(self):
        for part in ODD_THINGS[:7] + [(), (0,), (0, 1, 1), ("0", 1), (0, "1"), (None, 1), (0, None), ([], 1),
                                      (0, []), "ab", 0, 1, {}, {0: 1, 1: 1}]:
            self.wrong([part])
            self.wrong([(-5, 1), part])
            self.wrong([part, (5, 1)])

    def test_other_things(self):
        for thing in ODD_THINGS + [0, 1, SIXTY, {0: 1}, {(0, 1)}, "price 0 1"]:
            self.wrong(thing)


class Tolls(Told, unittest.TestCase):
    def test_of_no_prices(self):
        self.assert_told(0, toll_of, BOOK[0], [])
        self.assert_told(10, rest_of, BOOK[0], [])

    def test_at_begin_and_end(self):
        stretch = ("a", 3, 7, 50)
        for moment, toll in ((2, 0), (3, 4), (4, 4), (6, 4), (7, 0), (8, 0)):
            with self.subTest(moment):
                self.assert_told(toll, toll_of, stretch, [(moment, 4)])
                self.assert_told(50 - toll, rest_of, stretch, [(moment, 4)])

    def test_several_prices(self):
        paper = [(2, 1), (3, 10), (5, 100), (6, 1000), (7, 10000)]
        self.assert_told(1110, toll_of, ("a", 3, 7, 2000), paper)
        self.assert_told(890, rest_of, ("a", 3, 7, 2000), paper)

    def test_rests_around_0(self):
        paper = [(3, 10), (4, 10)]
        for worth, rest in ((0, 0), (19, 0), (20, 0), (21, 1), (22, 2), (FAR, FAR - 20)):
            with self.subTest(worth):
                self.assert_told(rest, rest_of, ("a", 3, 7, worth), paper)
                self.assert_told(20, toll_of, ("a", 3, 7, worth), paper)

    def test_far_out(self):
        paper = [(-FAR, DEAR), (0, 1), (FAR - 1, 2)]
        self.assert_told(DEAR + 3, toll_of, ("a", -FAR, FAR, FAR), paper)
        self.assert_told(3, toll_of, ("a", -FAR + 1, FAR, FAR), paper)
        self.assert_told(1, toll_of, ("a", -FAR + 1, FAR - 1, FAR), paper)
        self.assert_told(0, rest_of, ("a", -FAR, FAR, FAR), paper)
        self.assert_told(FAR - 3, rest_of, ("a", -FAR + 1, FAR, FAR), paper)

    def test_of_forty_eight_prices(self):
        paper = [(moment, moment + 1) for moment in range(48)]
        self.assert_told(48 * 49 // 2, toll_of, ("a", 0, 48, 5000), paper)
        self.assert_told(48 * 49 // 2 - 1 - 48, toll_of, ("a", 1, 47, 5000), paper)

    def test_drawn(self):
        draw = random.Random(61)
        for book in drawn_books(62, 60):
            paper = drawn_paper(draw)
            for stretch in book:
                toll = toll_by_hand(stretch, paper)
                self.assert_told(toll, toll_of, stretch, paper)
                self.assert_told(max(stretch[3] - toll, 0), rest_of, stretch, paper)


class Claims(Told, unittest.TestCase):
    def test_of_no_prices(self):
        for benches in (0, 1, 24):
            self.assert_told(150, claim, BOOK, benches, [])
            self.assert_told(0, claim, [], benches, [])

    def test_of_no_stretches(self):
        for benches in (0, 1, 2, 24):
            self.assert_told(17 * benches, claim, [], benches, [(0, 10), (5, 7)])

    def test_by_hand(self):
        # At 4 lie a, c and d: the rests are 0, 20, 25, 0 and 80; each bench pays 15 there.
        paper = [(4, 15)]
        self.assert_told(125, claim, BOOK, 0, paper)
        self.assert_told(140, claim, BOOK, 1, paper)
        self.assert_told(155, claim, BOOK, 2, paper)
        self.assert_told(125 + 24 * 15, claim, BOOK, 24, paper)

    def test_prices_where_nothing_lies(self):
        self.assert_told(150 + 3 * 9, claim, BOOK, 3, [(10, 4), (30, 5)])

    def test_the_greatest(self):
        paper = [(moment, DEAR) for moment in range(-24, 24)]
        self.assert_told(24 * 48 * DEAR, claim, piled_book(), 24, paper)
        self.assert_told(300, claim, piled_book(), 24, [])
        self.assert_told(299 + 24, claim, piled_book(), 24, [(-FAR, 1)])

    def test_drawn(self):
        draw = random.Random(63)
        for book in drawn_books(64, 60):
            paper = drawn_paper(draw)
            rests = sum(max(stretch[3] - toll_by_hand(stretch, paper), 0) for stretch in book)
            prices = sum(price for moment, price in paper)
            for benches in (0, 1, 2, 24):
                self.assert_told(prices * benches + rests, claim, book, benches, paper)

    def test_no_choice_is_worth_more(self):
        draw = random.Random(65)
        for book in drawn_books(66, 60):
            papers = [drawn_paper(draw, most=8) for _ in range(5)]
            for some in every_some(book):
                worth, load = worth_by_hand(book, some), greatest_by_hand(book, some)
                for paper in papers:
                    for benches in (load, load + 1, 24):
                        self.assertLessEqual(worth, claim(book, benches, paper))

    def test_a_changed_paper_is_another_one(self):
        paper = [(4, 15)]
        self.assert_alike(claim(BOOK, 1, paper), 140)
        paper.append((5, 20))
        self.assert_alike(claim(BOOK, 1, paper), 0 + 0 + 5 + 0 + 80 + 35)
        self.assert_alike(toll_of(BOOK[2], paper), 35)


if __name__ == "__main__":
    unittest.main()
