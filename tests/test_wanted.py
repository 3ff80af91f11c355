"""What a bench more brings, and what a stretch would have to be worth, by points 8.1, 8.2 and 0.4 (e)."""

import random
import unittest

from benchworth.bounded import most_within
from benchworth.most import most_of
from benchworth.wanted import beside, bench_more, rest_of_book, wanted
from benchworth.wantlook import lets_wanted
from tests.common import (FAR, NAMES, Told, bound_by_hand, choice_by_hand, claim_by_hand, claim_within_by_hand,
                          drawn_books, drawn_far_book, every_some, keeps_by_hand, modest_by_hand, most_by_hand,
                          paper_by_hand, peak_by_hand, piled_book, some_by_hand, whole_book, worth_by_hand)

BOOK = [("a", 0, 5, 10), ("b", 5, 9, 20), ("c", 4, 6, 40), ("d", 0, 9, 25), ("e", 20, 30, 80)]


class BenchMore(Told, unittest.TestCase):
    def more(self, book, benches, most, next_most):
        """That one paper claims both mosts, and that it is told by how much they differ."""
        told = self.asked(bench_more, book, benches)
        self.assertIs(type(told), tuple)
        more, paper = told
        self.assert_alike(more, next_most - most)
        self.assertTrue(paper_by_hand(paper), paper)
        self.assertEqual(claim_by_hand(book, benches, paper), most)
        self.assertEqual(claim_by_hand(book, benches + 1, paper), next_most)

    def test_of_no_stretches(self):
        for benches in range(24):
            self.assert_told((0, []), bench_more, [], benches)

    def test_of_one_stretch(self):
        for worth in (0, 1, FAR):
            book = [("a", -FAR, FAR, worth)]
            self.more(book, 0, 0, worth)
            for benches in (1, 2, 23):
                self.more(book, benches, worth, worth)

    def test_by_hand(self):
        worths = [0, 120, 150, 175] + [175] * 21
        for benches in range(24):
            self.more(BOOK, benches, worths[benches], worths[benches + 1])
            self.more(BOOK[::-1], benches, worths[benches], worths[benches + 1])

    def test_piled_up(self):
        for benches in range(24):
            self.more(piled_book(), benches, sum(range(25 - benches, 25)), sum(range(24 - benches, 25)))
            self.more([(name, -FAR, FAR, FAR) for name in NAMES[:24]], benches, benches * FAR, (benches + 1) * FAR)

    def test_small_books_against_all_choices(self):
        for book in drawn_books(121, 100, most=6):
            for benches in (0, 1, 2, 3, 4, 23):
                self.more(book, benches, most_by_hand(book, benches), most_by_hand(book, benches + 1))

    def test_twenty_four_stretches(self):
        draw = random.Random(122)
        for book in [whole_book()] + [drawn_far_book(draw) for _ in range(4)]:
            for benches in range(24):
                self.more(book, benches, most_of(book, benches)[0], most_of(book, benches + 1)[0])


class RestOfBook(Told, unittest.TestCase):
    def test_the_first_a_middle_and_the_last_one(self):
        a, b, c, d, e = BOOK
        self.assert_told([b, c, d, e], rest_of_book, BOOK, 0)
        self.assert_told([a, b, d, e], rest_of_book, BOOK, 2)
        self.assert_told([a, b, c, d], rest_of_book, BOOK, 4)

    def test_of_one_and_of_twenty_four(self):
        self.assert_told([], rest_of_book, BOOK[:1], 0)
        for i in range(24):
            self.assert_told([stretch for k, stretch in enumerate(whole_book()) if k != i], rest_of_book,
                             whole_book(), i)


class Beside(Told, unittest.TestCase):
    def test_within_time(self):
        self.assert_told([(-FAR, 3), (4, 2), (6, 3)], beside, BOOK, 3, 2)
        self.assert_told([(-FAR, 24), (20, 23), (30, 24)], beside, BOOK, 24, 4)
        self.assert_told([(-FAR, 2), (0, 1), (5, 2)], beside, BOOK, 2, 0)

    def test_one_bench(self):
        self.assert_told([(-FAR, 1), (4, 0), (6, 1)], beside, BOOK, 1, 2)
        self.assert_told([(-FAR, 0), (0, 1)], beside, [("a", -FAR, 0, 5)], 1, 0)
        self.assert_told([(-FAR, 0), (FAR, 1)], beside, [("a", -FAR, FAR, 5)], 1, 0)

    def test_at_the_ends_of_time(self):
        book = [("a", -FAR, 7, 5), ("b", 7, FAR, 5), ("c", -FAR, FAR, 5), ("d", 1 - FAR, FAR - 1, 5),
                ("e", -FAR, 1 - FAR, 5), ("f", FAR - 1, FAR, 5)]
        self.assert_told([(-FAR, 4), (7, 5)], beside, book, 5, 0)
        self.assert_told([(-FAR, 5), (7, 4), (FAR, 5)], beside, book, 5, 1)
        self.assert_told([(-FAR, 4), (FAR, 5)], beside, book, 5, 2)
        self.assert_told([(-FAR, 5), (1 - FAR, 4), (FAR - 1, 5)], beside, book, 5, 3)
        self.assert_told([(-FAR, 4), (1 - FAR, 5)], beside, book, 5, 4)
        self.assert_told([(-FAR, 5), (FAR - 1, 4), (FAR, 5)], beside, book, 5, 5)

    def test_drawn(self):
        for book in drawn_books(123, 60):
            for i, stretch in enumerate(book):
                for benches in (1, 2, 24):
                    bounds = self.asked(beside, book, benches, i)
                    self.assertEqual(bounds[0][0], -FAR)
                    self.assertTrue(all(one[0] < other[0] and one[1] != other[1]
                                        for one, other in zip(bounds, bounds[1:])))
                    for moment in list(range(-12, 12)) + [-FAR, FAR]:
                        over = stretch[1] <= moment < stretch[2]
                        self.assertEqual(bound_by_hand(bounds, moment), benches - over)


class Wanted(Told, unittest.TestCase):
    def wanted(self, book, benches, i):
        """The told least; that both mosts beside it are such."""
        told = self.asked(wanted, book, benches, i)
        self.assertIs(type(told), tuple)
        word, least, without, along = told
        self.assertEqual(word, "wanted")
        rest, bounds = book[:i] + book[i + 1:], beside(book, benches, i)
        self.assertTrue(choice_by_hand(rest, benches, without[1]))
        self.assertTrue(some_by_hand(rest, along[1]) and keeps_by_hand(rest, bounds, along[1]))
        for worth, some, paper in (without, along):
            self.assertIs(type(worth), int)
            self.assertEqual(worth_by_hand(rest, some), worth)
            self.assertTrue(paper_by_hand(paper))
            self.assertTrue(modest_by_hand(rest, paper))
        self.assertEqual(claim_by_hand(rest, benches, without[2]), without[0])
        self.assertEqual(claim_within_by_hand(rest, bounds, along[2]), along[0])
        self.assert_alike(least, without[0] - along[0])
        self.assert_told(True, lets_wanted, book, benches, i, told)
        return least

    def best_choices(self, book, benches):
        choices = [some for some in every_some(book) if peak_by_hand(book, some) <= benches]
        best = max(worth_by_hand(book, some) for some in choices)
        return [some for some in choices if worth_by_hand(book, some) == best]

    def chosen(self, book, benches, i, worth):
        """In how many of the best choices the stretch is, were this its worth: "none", "some" or "each"."""
        changed = book[:i] + [book[i][:3] + (worth,)] + book[i + 1:]
        best = self.best_choices(changed, benches)
        within = [some for some in best if i in some]
        return "each" if len(within) == len(best) else "some" if within else "none"

    def test_no_benches(self):
        for i in range(5):
            self.assert_told(None, wanted, BOOK, 0, i)
        self.assert_told(None, wanted, [("a", 0, 5, 0)], 0, 0)

    def test_of_one_stretch(self):
        for worth in (0, 7, FAR):
            for benches in (1, 2, 24):
                self.assert_told(("wanted", 0, (0, [], []), (0, [], [])), wanted, [("a", 0, 5, worth)], benches, 0)

    def test_by_hand(self):
        # On one bench c alone is worth 40, a and b together 30, d 25.
        for i, least in ((0, 20), (1, 30), (2, 30), (3, 40), (4, 0)):
            self.assertEqual(self.wanted(BOOK, 1, i), least)
        # On three benches all sit.
        for i in range(5):
            self.assertEqual(self.wanted(BOOK, 3, i), 0)
            self.assertEqual(self.wanted(BOOK, 24, i), 0)

    def test_its_own_worth_does_not_count(self):
        for worth in (0, 1, 39, 40, 41, FAR):
            book = BOOK[:3] + [("d", 0, 9, worth)] + BOOK[4:]
            self.assertEqual(self.wanted(book, 1, 3), 40)

    def test_more_than_any_worth(self):
        book = [(name, 10 * i, 10 * i + 10, FAR) for i, name in enumerate(NAMES[:23])] + [("z", -FAR, FAR, FAR)]
        self.assertEqual(self.wanted(book, 1, 23), 23 * FAR)
        self.assertEqual(self.wanted(book, 2, 23), 0)
        self.assertEqual(self.wanted(book, 1, 0), 0)

    def test_twenty_four(self):
        for benches in (1, 2, 12, 23, 24):
            self.assertEqual(self.wanted(piled_book(), benches, 23), 24 - benches)
            self.assertEqual(self.wanted(piled_book(), benches, 0), 25 - benches if benches < 24 else 0)
        for i in (0, 11, 23):
            for benches in (1, 2, 24):
                self.wanted(whole_book(), benches, i)

    def test_twenty_four_drawn(self):
        draw = random.Random(124)
        for _ in range(5):
            book = drawn_far_book(draw)
            for benches in (1, 3, 8, 24):
                for i in (0, 12, 23):
                    least = self.wanted(book, benches, i)
                    rest = book[:i] + book[i + 1:]
                    self.assertEqual(least, most_of(rest, benches)[0] - most_within(rest, beside(book, benches, i))[0])
                    # By the mosts of the whole book: with less it brings nothing, with more all that it is above.
                    for worth, gain in ((least - 1, 0), (least, 0), (least + 1, 1), (least + 1000, 1000)):
                        if 0 <= worth <= FAR:
                            changed = book[:i] + [book[i][:3] + (worth,)] + book[i + 1:]
                            self.assertEqual(most_of(changed, benches)[0], most_of(rest, benches)[0] + gain)

    def test_against_all_choices_of_small_books(self):
        seen = 0
        for book in drawn_books(125, 80, most=5):
            for i in range(len(book)):
                for benches in (1, 2, 3):
                    least = self.wanted(book, benches, i)
                    self.assertGreaterEqual(least, 0)
                    self.assertEqual(self.chosen(book, benches, i, least), "some")
                    self.assertEqual(self.chosen(book, benches, i, least + 1), "each")
                    self.assertEqual(self.chosen(book, benches, i, least + 9), "each")
                    if least > 0:
                        seen += 1
                        self.assertEqual(self.chosen(book, benches, i, least - 1), "none")
                        self.assertEqual(self.chosen(book, benches, i, 0), "none")
        self.assertGreater(seen, 50)


if __name__ == "__main__":
    unittest.main()
