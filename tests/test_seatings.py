"""The most by wishes, or a half, by point 10.4 and 0.4 (g)."""

import random
import unittest

from benchworth.seatings import most_seated, whole_count
from benchworth.wishes import bench_claim, is_bench_paper, is_seating
from benchworth.wishtrees import wish_claim
from tests.common import (FAR, NAMES, Told, bench_claim_by_hand, bench_paper_by_hand, drawn_book, drawn_far_book,
                          drawn_wishes, every_seating, piled_book, seating_by_hand, seating_worth_by_hand,
                          tuples_in_tree, whole_book, wish_tree_by_hand)


def count_by_hand(lists):
    """As the document says it: of the first stretch, and of those behind it."""
    if not lists:
        return 1
    return 1 + (len(lists[0]) + 1) * count_by_hand(lists[1:])


def lists_of_count(goal):
    """Lists of benches of just this whole count, of four benches at most and twenty-four stretches, or None."""
    ways = {1: ()}
    for _ in range(24):
        for count, lens in list(ways.items()):
            for many in range(5):
                more = 1 + (many + 1) * count
                if more <= goal and len(lens) < 24 and (more not in ways or len(ways[more]) > len(lens) + 1):
                    ways[more] = (many,) + lens
    return [list(range(many)) for many in ways[goal]] if goal in ways else None


class Counts(Told, unittest.TestCase):
    def count(self, expected, lists, benches=4):
        with self.subTest(lists):
            self.assert_told(expected, whole_count, (benches, lists))

    def test_no_stretches(self):
        for benches in (1, 2, 3, 4):
            self.count(1, [], benches)

    def test_one_stretch(self):
        for many in range(5):
            self.count(many + 2, [list(range(many))])

    def test_stretches_without_benches(self):
        for many in range(25):
            self.count(many + 1, [[] for _ in range(many)], 1)

    def test_the_first_one_counts_first(self):
        self.count(1 + 3 * (1 + 2 * 1), [[0, 1], [0]])
        self.count(1 + 2 * (1 + 3 * 1), [[0], [1, 3]])
        self.count(1 + 1 * (1 + 5 * (1 + 2)), [[], [0, 1, 2, 3], [2]])

    def test_the_greatest(self):
        self.count((5 ** 25 - 1) // 4, [[0, 1, 2, 3] for _ in range(24)])
        self.count(2 ** 25 - 1, [[3] for _ in range(24)])

    def test_drawn(self):
        draw = random.Random(191)
        for _ in range(100):
            lists = [sorted(draw.sample(range(4), draw.randint(0, 4))) for _ in range(draw.randint(0, 24))]
            self.count(count_by_hand(lists), lists)


class Seated(Told, unittest.TestCase):
    def looked_at(self, book, wishes, kind=None):
        """What is told, and that it is right, but for whether it is the most."""
        told = self.asked(most_seated, book, wishes)
        self.assertIs(type(told), tuple)
        self.assertEqual(len(told), 4)
        word, worth, seating, why = told
        self.assert_alike(word, "most" if count_by_hand(wishes[1]) <= 500 else "half")
        if kind is not None:
            self.assert_alike(word, kind)
        self.assertIs(type(worth), int)
        self.assertTrue(seating_by_hand(book, wishes, seating), seating)
        self.assertTrue(is_seating(book, wishes, seating))
        self.assertEqual(seating_worth_by_hand(book, seating), worth)
        if word == "most":
            self.assert_alike(wish_tree_by_hand(book, wishes, why), ("claims", worth))
            self.assert_alike(wish_claim(book, wishes, why), worth)
            self.assertLessEqual(tuples_in_tree(why), 500)
        else:
            self.assertTrue(bench_paper_by_hand(why) and is_bench_paper(why), why)
            self.assertLessEqual(bench_claim_by_hand(book, wishes, why), 2 * worth)
            self.assertLessEqual(bench_claim(book, wishes, why), 2 * worth)
        return worth

    def test_no_stretches(self):
        for benches in (1, 4):
            self.assertEqual(self.looked_at([], (benches, []), "most"), 0)

    def test_stretches_without_benches(self):
        for many in (1, 2, 24):
            self.assertEqual(self.looked_at(whole_book()[:many], (4, [[] for _ in range(many)]), "most"), 0)

    def test_ordinary_ones(self):
        book = [("a", 0, 5, 10), ("b", 3, 8, 20), ("c", 5, 9, 15), ("d", 20, 21, 40)]
        self.assertEqual(self.looked_at(book, (1, [[0], [0], [0], [0]]), "most"), 65)
        self.assertEqual(self.looked_at(book, (2, [[0], [0], [1], []]), "most"), 35)
        self.assertEqual(self.looked_at(book, (3, [[2], [0, 1], [1], [0]]), "most"), 85)
        self.assertEqual(self.looked_at(book, (3, [[1], [1], [1], []]), "most"), 25)

    def test_just_five_hundred_and_the_next_greater_one(self):
        draw = random.Random(192)
        lists = lists_of_count(500)
        self.assertEqual(count_by_hand(lists), 500)
        following = next(goal for goal in range(501, 600) if lists_of_count(goal) is not None)
        beyond = lists_of_count(following)
        for _ in range(10):
            self.looked_at(drawn_far_book(draw, len(lists)), (4, lists), "most")
            self.looked_at(drawn_far_book(draw, len(beyond)), (4, beyond), "half")

    def test_counts_around_five_hundred(self):
        draw = random.Random(193)
        for goal in range(490, 512):
            lists = lists_of_count(goal)
            if lists is not None:
                book = [(NAMES[i], begin, begin + draw.randint(1, 6), draw.randint(0, 9))
                        for i, begin in enumerate(draw.choices(range(9), k=len(lists)))]
                self.looked_at(book, (4, lists), "most" if goal <= 500 else "half")

    def test_the_most_against_all_seatings(self):
        draw = random.Random(194)
        most = 0
        for _ in range(250):
            book = drawn_book(draw, most=5)
            wishes = drawn_wishes(draw, book, most=3)
            worth = self.looked_at(book, wishes)
            best = max(seating_worth_by_hand(book, seating) for seating in every_seating(book, wishes))
            if count_by_hand(wishes[1]) <= 500:
                most += 1
                self.assertEqual(worth, best)
            else:
                self.assertTrue(worth <= best <= 2 * worth, (worth, best))
        self.assertGreater(most, 150)

    def test_a_half_against_all_seatings(self):
        draw = random.Random(195)
        halves = 0
        for _ in range(60):
            book = drawn_book(draw, most=6)
            wishes = (3, [[bench for bench in range(3) if draw.random() < 0.8] for _ in book])
            if count_by_hand(wishes[1]) <= 500:
                continue
            halves += 1
            worth = self.looked_at(book, wishes, "half")
            best = max(seating_worth_by_hand(book, seating) for seating in every_seating(book, wishes))
            self.assertTrue(worth <= best <= 2 * worth, (worth, best))
        self.assertGreater(halves, 10)

    def test_a_half_where_the_benches_are_wished_unlike(self):
        # All want bench 0, a few others: bench by bench something is left over.
        book = [(NAMES[i], i % 3, i % 3 + 2, 10 + i) for i in range(10)]
        for lists in ([[0]] * 5 + [[0, 1, 2, 3]] * 5, [[0, 3]] * 10, [[i % 4] for i in range(10)],
                      [[0, 1, 2, 3]] * 5 + [[]] * 5):
            self.looked_at(book, (4, [list(wished) for wished in lists]), "half")

    def test_worths_of_0_and_the_greatest(self):
        for worth in (0, FAR):
            book = [(NAMES[i], i % 6, i % 6 + 3, worth) for i in range(24)]
            for lists in ([[0, 1, 2, 3]] * 24, [[i % 4] for i in range(24)], [[0]] * 24):
                self.looked_at(book, (4, [list(wished) for wished in lists]), "half")
            small = (2, [[0, 1], [0], [1], [0, 1]])
            self.assertEqual(self.looked_at(book[:1] + book[6:7] + book[12:13] + book[18:19], small, "most"), 2 * worth)
        self.assertEqual(self.looked_at(book, (4, [[0, 1, 2, 3] for _ in book]), "half") % FAR, 0)

    def test_one_that_is_worth_something_among_many_that_are_not(self):
        for place in (0, 11, 23):
            book = [(NAMES[i], 0, 5, 7 if i == place else 0) for i in range(24)]
            self.assertEqual(self.looked_at(book, (4, [[3] for _ in book]), "half"), 7)
            self.assertEqual(self.looked_at(book, (4, [[] if i == place else [3] for i in range(24)]), "half"), 0)

    def test_twenty_four_stretches_in_good_time(self):
        draw = random.Random(196)
        for book in (piled_book(), whole_book(), drawn_far_book(draw), drawn_far_book(draw)):
            self.looked_at(book, (4, [[0, 1, 2, 3] for _ in book]), "half")
            for _ in range(5):
                self.looked_at(book, drawn_wishes(draw, book))

    def test_a_changed_book_is_another_one(self):
        book, wishes = [("a", 0, 5, 10)], (1, [[0]])
        self.assertEqual(most_seated(book, wishes)[1], 10)
        book[0] = ("a", 0, 5, 3)
        self.assertEqual(most_seated(book, wishes)[1], 3)
        wishes[1][0].clear()
        self.assertEqual(most_seated(book, wishes)[1], 0)


if __name__ == "__main__":
    unittest.main()
