"""Wishes, seatings and bench papers, by points 10.1, 10.2 and 0.4 (g)."""

import random
import unittest
from itertools import product

from benchworth.wishes import are_wishes, bench_claim, is_bench_paper, is_seating, seating_worth
from tests.common import (FAR, NAMES, ODD_THINGS, SIXTY, Told, bench_claim_by_hand, bench_paper_by_hand,
                          drawn_bench_paper, drawn_books, drawn_wishes, every_seating, otherwise, seating_by_hand,
                          seating_worth_by_hand, whole_book, wishes_by_hand)

# a and b meet, b and c meet, a's end is c's begin; d is alone.
BOOK = [("a", 0, 5, 10), ("b", 3, 8, 20), ("c", 5, 9, 30), ("d", 20, 21, 40)]
WISHES = (3, [[0, 1, 2], [1], [0, 1], []])


class Case(Told, unittest.TestCase):
    def right(self, question, *handed):
        with self.subTest(handed):
            self.assert_told(True, question, *handed)

    def wrong(self, question, *handed):
        with self.subTest(handed):
            self.assert_told(False, question, *handed)


class Wishes(Case):
    def test_ordinary_ones(self):
        self.right(are_wishes, BOOK, WISHES)
        self.right(are_wishes, BOOK, (4, [[0, 1, 2, 3], [], [3], [0, 3]]))
        self.right(are_wishes, BOOK, (1, [[], [], [], []]))
        self.right(are_wishes, whole_book(), (4, [[0, 1, 2, 3] for _ in range(24)]))

    def test_numbers_of_benches(self):
        for benches in (1, 2, 3, 4):
            self.right(are_wishes, BOOK, (benches, [[], [0], [benches - 1], list(range(benches))]))
            self.right(are_wishes, [], (benches, []))
        for benches in (0, 5, 6, -1, 24, SIXTY, -SIXTY, True, False, None, "1", [1], (1,)):
            self.wrong(are_wishes, BOOK, (benches, [[], [], [], []]))
            self.wrong(are_wishes, BOOK, (benches, [[0], [], [], []]))
            self.wrong(are_wishes, [], (benches, []))

    def test_a_list_for_each_stretch(self):
        for many in (0, 1, 3, 5, 24, 25):
            self.wrong(are_wishes, BOOK, (2, [[0] for _ in range(many)]))
        self.wrong(are_wishes, [], (2, [[]]))
        self.wrong(are_wishes, whole_book(), (2, [[] for _ in range(23)]))
        self.wrong(are_wishes, whole_book(), (2, [[] for _ in range(25)]))

    def test_wrong_benches_in_the_first_a_middle_and_the_last_list(self):
        for wished in ([1, 0], [0, 0], [1, 1], [0, 2, 1], [3], [0, 1, 2, 3], [-1], [0, 3], [-1, 0], [SIXTY], [True],
                       [False], [0, True], [False, 1], [None], ["0"], [[0]], [(0,)], (0,), (), None, 0, True, "", "0",
                       {}, {0: 0}, set(), {0, 1}, range(2)):
            for place in (0, 1, 3):
                lists = [[0], [1], [], [0, 2]]
                lists[place] = wished
                self.wrong(are_wishes, BOOK, (3, lists))

    def test_benches_up_to_the_last_one(self):
        for benches in (1, 2, 3, 4):
            for bench in range(6):
                self.assert_told(bench < benches, are_wishes, BOOK[:1], (benches, [[bench]]))

    def test_other_forms(self):
        for thing in ODD_THINGS + [0, [], [3, WISHES[1]], (3,), (3, WISHES[1], 0), (WISHES[1], 3), (3, None), (3, {}),
                                   (3, tuple(WISHES[1])), (3, {0: [], 1: [], 2: [], 3: []}), (3, 4), (3, "abcd"),
                                   [WISHES], (WISHES,)]:
            self.wrong(are_wishes, BOOK, thing)

    def test_each_part_otherwise(self):
        for thing in otherwise(WISHES):
            self.assert_told(wishes_by_hand(BOOK, thing), are_wishes, BOOK, thing)


class Seatings(Case):
    def test_nobody_sits(self):
        self.right(is_seating, BOOK, WISHES, [None, None, None, None])
        self.right(is_seating, [], (1, []), [])
        self.assert_told(0, seating_worth, BOOK, [None, None, None, None])
        self.assert_told(0, seating_worth, [], [])

    def test_benches_that_are_wished(self):
        for place, benches in enumerate(WISHES[1]):
            for bench in range(5):
                seating = [None, None, None, None]
                seating[place] = bench
                self.assert_told(bench in benches, is_seating, BOOK, WISHES, seating)

    def test_two_that_meet(self):
        self.wrong(is_seating, BOOK, WISHES, [1, 1, None, None])
        self.right(is_seating, BOOK, WISHES, [0, 1, None, None])
        self.wrong(is_seating, BOOK, WISHES, [None, 1, 1, None])
        self.right(is_seating, BOOK, WISHES, [2, 1, 0, None])
        self.wrong(is_seating, BOOK, WISHES, [2, 1, 1, None])

    def test_two_whose_end_and_begin_are_alike(self):
        self.right(is_seating, BOOK, WISHES, [0, None, 0, None])
        self.right(is_seating, BOOK, WISHES, [1, None, 1, None])
        book = [("b", 5, 9, 1), ("a", 0, 5, 1), ("c", 4, 6, 1)]
        self.right(is_seating, book, (1, [[0], [0], [0]]), [0, 0, None])
        self.wrong(is_seating, book, (1, [[0], [0], [0]]), [0, None, 0])
        self.wrong(is_seating, book, (1, [[0], [0], [0]]), [None, 0, 0])

    def test_one_too_few_and_one_too_many(self):
        for seating in ([], [0], [0, 1, None], [0, 1, None, None, None], [None] * 3, [None] * 5):
            self.wrong(is_seating, BOOK, WISHES, seating)
        self.wrong(is_seating, [], (1, []), [None])

    def test_true_and_false(self):
        for seating in ([True, None, None, None], [False, None, None, None], [None, True, None, None],
                        [None, None, False, None], [0, True, None, None], [None, None, None, False]):
            self.wrong(is_seating, BOOK, WISHES, seating)

    def test_other_things(self):
        for thing in ODD_THINGS + [(None, None, None, None), (0, 1, None, None), "0123", {0: None},
                                   dict.fromkeys(range(4))]:
            self.wrong(is_seating, BOOK, WISHES, thing)
            if thing is not None:
                self.wrong(is_seating, BOOK, WISHES, [None, None, thing, None])
                self.wrong(is_seating, BOOK, WISHES, [None, None, None, thing])
        for bench in ("0", [0], (0,), -1, SIXTY, b"0"):
            self.wrong(is_seating, BOOK, WISHES, [bench, None, None, None])

    def test_each_part_otherwise(self):
        seating = [0, 1, 0, None]
        for thing in otherwise(seating):
            self.assert_told(seating_by_hand(BOOK, WISHES, thing), is_seating, BOOK, WISHES, thing)

    def test_all_of_small_books(self):
        draw = random.Random(171)
        for book in drawn_books(172, 60, most=4):
            wishes = drawn_wishes(draw, book, most=2)
            for seating in product((None, 0, 1, 2), repeat=len(book)):
                seating = list(seating)
                self.assertIs(is_seating(book, wishes, seating), seating_by_hand(book, wishes, seating))

    def test_very_long_stretches(self):
        book = [("a", -FAR, FAR, 1), ("b", FAR - 1, FAR, 1), ("c", -FAR, FAR - 1, 1)]
        wishes = (2, [[0, 1], [0, 1], [0, 1]])
        self.right(is_seating, book, wishes, [0, 1, 1])
        self.wrong(is_seating, book, wishes, [0, 0, 1])
        self.wrong(is_seating, book, wishes, [1, 0, 1])

    def test_worths(self):
        self.assert_told(10, seating_worth, BOOK, [0, None, None, None])
        self.assert_told(10 + 20 + 30, seating_worth, BOOK, [2, 1, 0, None])
        self.assert_told(30, seating_worth, BOOK, [None, None, 1, None])
        book = [(name, 0, 1, FAR) for name in NAMES[:24]]
        self.assert_told(4 * FAR, seating_worth, book, [0, 1, 2, 3] + [None] * 20)

    def test_worths_of_all(self):
        draw = random.Random(173)
        for book in drawn_books(174, 30, most=4):
            wishes = drawn_wishes(draw, book)
            for seating in every_seating(book, wishes):
                self.assertEqual(seating_worth(book, seating), seating_worth_by_hand(book, seating))


class BenchPapers(Case):
    def test_ordinary_ones(self):
        self.right(is_bench_paper, [])
        self.right(is_bench_paper, [(0, 5, 7)])
        self.right(is_bench_paper, [(0, 5, 7), (0, 6, 1), (1, -3, 2), (3, 0, 10 * FAR)])

    def test_how_many(self):
        full = [(bench, moment, 1) for bench in range(4) for moment in range(48)]
        self.right(is_bench_paper, full)
        self.right(is_bench_paper, full[:191])
        self.wrong(is_bench_paper, full + [(3, 48, 1)])
        self.wrong(is_bench_paper, full + [None])
        self.right(is_bench_paper, [(2, moment, 1) for moment in range(192)])
        self.wrong(is_bench_paper, [(2, moment, 1) for moment in range(193)])
        self.right(is_bench_paper, [(0, moment, 1) for moment in range(49)])

    def test_benches_and_moments_that_do_not_rise(self):
        for paper in ([(1, 5, 1), (1, 5, 1)], [(1, 5, 1), (1, 5, 2)], [(1, 5, 1), (1, 4, 1)], [(1, 5, 1), (0, 5, 1)],
                      [(1, 5, 1), (0, 6, 1)], [(0, 5, 1), (1, 5, 1), (1, 5, 3)], [(0, 1, 1), (0, 0, 1), (1, 0, 1)],
                      [(0, 1, 1), (2, 0, 1), (1, 0, 1)]):
            self.wrong(is_bench_paper, paper)
        self.right(is_bench_paper, [(0, 5, 1), (1, 5, 1), (2, 4, 1), (3, 3, 1)])

    def test_bounds_of_each(self):
        for bench, right in ((0, True), (1, True), (2, True), (3, True), (4, False), (-1, False), (SIXTY, False)):
            self.assert_told(right, is_bench_paper, [(bench, 0, 1)])
        for moment, right in ((-FAR, True), (FAR - 1, True), (-FAR - 1, False), (FAR, False), (SIXTY, False)):
            self.assert_told(right, is_bench_paper, [(0, moment, 1)])
        for price, right in ((1, True), (10 * FAR, True), (0, False), (10 * FAR + 1, False), (-1, False),
                             (SIXTY, False)):
            self.assert_told(right, is_bench_paper, [(0, 0, price)])

    def test_true_and_false(self):
        for part in ((True, 1, 1), (False, 1, 1), (1, True, 1), (1, False, 1), (1, 1, True), (1, 1, False)):
            self.wrong(is_bench_paper, [part])
            self.wrong(is_bench_paper, [part, (3, 1, 1)])
            self.wrong(is_bench_paper, [(0, -5, 1), part])

    def test_other_forms(self):
        for thing in ODD_THINGS + [0, ((0, 1, 1),), [[0, 1, 1]], [(0, 1)], [(0, 1, 1, 1)], [0], [None], [()], ["abc"],
                                   [("0", 1, 1)], [(0, None, 1)], [(0, 1, [])], {0: 1}, {(0, 1, 1)}, [(0, 1, 1), None],
                                   [(0, (1, 1))], [((0, 1), 1)]]:
            self.wrong(is_bench_paper, thing)

    def test_each_part_otherwise(self):
        for thing in otherwise([(0, 5, 7), (1, 4, 2), (1, 6, 1)]):
            self.assert_told(bench_paper_by_hand(thing), is_bench_paper, thing)


class BenchClaims(Case):
    def claims(self, expected, book, wishes, paper):
        with self.subTest((wishes, paper)):
            self.assertEqual(bench_claim_by_hand(book, wishes, paper), expected)
            self.assert_told(expected, bench_claim, book, wishes, paper)

    def test_without_prices(self):
        self.claims(60, BOOK, WISHES, [])
        self.claims(0, BOOK, (1, [[], [], [], []]), [])
        self.claims(0, [], (4, []), [])

    def test_a_stretch_without_benches(self):
        # d is worth 40 but has no bench: it has no rest, and the price over it counts.
        self.claims(60, BOOK, WISHES, [])
        self.claims(60 + 7, BOOK, WISHES, [(0, 20, 7)])
        self.claims(100, BOOK, (3, [[0], [0], [0], [0]]), [])

    def test_the_least_of_the_tolls(self):
        # a has three benches, b one, c two.
        self.claims(6 + 60, BOOK, WISHES, [(0, 4, 6)])
        self.claims(6 + 10 + 14 + 30, BOOK, WISHES, [(1, 4, 6)])
        self.claims(6 + 5 + 4 + (10 - 4) + (20 - 5) + 30, BOOK, WISHES, [(0, 4, 6), (1, 3, 5), (2, 0, 4)])
        self.claims(8 + 9 + 10 + (20 - 9) + (30 - 8), BOOK, WISHES, [(0, 6, 8), (1, 6, 9)])

    def test_sums_of_tolls(self):
        self.claims(2 + 3 + 4 + 10 + (20 - 9) + 30, BOOK, WISHES, [(1, 3, 2), (1, 4, 3), (1, 7, 4)])

    def test_rests_around_0(self):
        book = [("a", 0, 5, 10)]
        for price, rest in ((9, 1), (10, 0), (11, 0), (10 * FAR, 0)):
            self.claims(price + rest, book, (1, [[0]]), [(0, 4, price)])
            self.claims(2 * price + rest, book, (2, [[0, 1]]), [(0, 4, price), (1, 0, price)])
            self.claims(price + 10, book, (2, [[0, 1]]), [(0, 4, price)])

    def test_edges_of_stretches(self):
        book = [("a", 0, 5, 10)]
        for moment, rest in ((-1, 10), (0, 7), (4, 7), (5, 10)):
            self.claims(3 + rest, book, (1, [[0]]), [(0, moment, 3)])

    def test_prices_of_benches_that_the_wishes_have_not(self):
        self.claims(60 + 5, BOOK, WISHES, [(3, 4, 5)])
        self.claims(7 * 3 + 10, BOOK[:1], (1, [[0]]), [(1, 4, 7), (2, 4, 7), (3, 4, 7)])

    def test_the_greatest(self):
        book = [(name, -FAR, FAR, FAR) for name in NAMES[:24]]
        wishes = (4, [[0, 1, 2, 3] for _ in book])
        self.claims(24 * FAR, book, wishes, [])
        paper = [(bench, moment, 10 * FAR) for bench in range(4) for moment in range(48)]
        self.claims(192 * 10 * FAR, book, wishes, paper)

    def test_drawn(self):
        draw = random.Random(175)
        for book in drawn_books(176, 120):
            wishes, paper = drawn_wishes(draw, book), drawn_bench_paper(draw)
            self.claims(bench_claim_by_hand(book, wishes, paper), book, wishes, paper)

    def test_no_seating_is_worth_more(self):
        draw = random.Random(177)
        for book in drawn_books(178, 60, most=5):
            wishes = drawn_wishes(draw, book, most=3)
            most = max(seating_worth_by_hand(book, seating) for seating in every_seating(book, wishes))
            for _ in range(8):
                self.assertGreaterEqual(bench_claim(book, wishes, drawn_bench_paper(draw)), most)


if __name__ == "__main__":
    unittest.main()
