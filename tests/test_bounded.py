"""The most within bounds, by points 7.2, 0.4 (a) and 0.4 (d)."""

import random
import unittest

from benchworth.bounded import claim_within, most_within
from benchworth.bounds import opened
from benchworth.most import most_of
from benchworth.openings import late_seats
from benchworth.papers import claim
from tests.common import (FAR, NAMES, Told, claim_within_by_hand, drawn_books, drawn_bounds, drawn_far_book,
                          drawn_paper, every_some, keeps_by_hand, modest_by_hand, most_within_by_hand, paper_by_hand,
                          piled_book, seats_by_hand, some_by_hand, whole_book, worth_by_hand)

BOOK = [("a", 0, 5, 10), ("b", 5, 9, 20), ("c", 4, 6, 40), ("d", 0, 9, 25), ("e", 20, 30, 80)]


class Claims(Told, unittest.TestCase):
    def test_no_prices(self):
        for bounds in ([(0, 0)], [(-FAR, 24)], [(3, 1), (5, 2)]):
            self.assert_told(175, claim_within, BOOK, bounds, [])
            self.assert_told(0, claim_within, [], bounds, [])

    def test_a_price_ahead_of_at_and_between_the_steps(self):
        bounds = [(3, 2), (8, 0), (12, 5)]
        for moment, times in ((-FAR, 0), (-5, 0), (2, 0), (3, 2), (4, 2), (7, 2), (8, 0), (11, 0), (12, 5), (13, 5),
                              (FAR - 1, 5)):
            with self.subTest(moment):
                self.assert_told(7 * times, claim_within, [], bounds, [(moment, 7)])

    def test_a_price_ahead_of_the_first_step_is_a_toll(self):
        # a pays 4 of its 10, and nobody has to pay it on a bench.
        self.assert_told(175 - 4 - 4, claim_within, BOOK, [(2, 3)], [(1, 4)])
        self.assert_told(175 - 4 - 4 + 12, claim_within, BOOK, [(1, 3)], [(1, 4)])

    def test_several_prices(self):
        bounds = [(0, 1), (5, 2), (9, 0), (25, 3)]
        # The rests: a 0, b 5, c 18, d 0, e 70.
        paper = [(0, 3), (4, 7), (5, 15), (12, 100), (20, 4), (25, 6)]
        self.assert_told(3 + 7 + 30 + 0 + 0 + 18 + 0 + 5 + 18 + 0 + 70, claim_within, BOOK, bounds, paper)

    def test_the_greatest(self):
        paper = [(moment, 10 * FAR) for moment in range(-24, 24)]
        self.assert_told(24 * 48 * 10 * FAR, claim_within, piled_book(), [(-FAR, 24)], paper)
        self.assert_told(24 * 24 * 10 * FAR, claim_within, piled_book(), [(0, 24)], paper)
        self.assert_told(0, claim_within, piled_book(), [(-FAR, 0)], paper)

    def test_drawn(self):
        draw = random.Random(101)
        for book in drawn_books(102, 80):
            bounds, paper = drawn_bounds(draw, most=6), drawn_paper(draw)
            self.assert_told(claim_within_by_hand(book, bounds, paper), claim_within, book, bounds, paper)

    def test_bounds_that_are_the_same_everywhere(self):
        draw = random.Random(103)
        for book in drawn_books(104, 40):
            paper = drawn_paper(draw)
            for benches in (0, 1, 3, 24):
                told = claim_within(book, [(-FAR, benches)], paper)
                self.assertEqual(told, claim(book, benches, paper))
                self.assertEqual(claim_within(book, [(-FAR, benches), (2, benches)], paper), told)

    def test_no_some_that_keep_the_bounds_are_worth_more(self):
        draw = random.Random(105)
        for book in drawn_books(106, 60):
            bounds = drawn_bounds(draw, most=5)
            papers = [drawn_paper(draw, most=8) for _ in range(6)]
            for some in every_some(book):
                if keeps_by_hand(book, bounds, some):
                    for paper in papers:
                        self.assertLessEqual(worth_by_hand(book, some), claim_within(book, bounds, paper))


class MostWithin(Told, unittest.TestCase):
    def most(self, book, bounds):
        """The told worth; that some have it, and that a paper shows that none have more."""
        told = self.asked(most_within, book, bounds)
        self.assertIs(type(told), tuple)
        worth, some, paper = told
        self.assertIs(type(worth), int)
        self.assertTrue(some_by_hand(book, some), some)
        self.assertTrue(keeps_by_hand(book, bounds, some), some)
        self.assertEqual(worth_by_hand(book, some), worth)
        self.assertTrue(paper_by_hand(paper), paper)
        self.assertEqual(claim_within_by_hand(book, bounds, paper), worth)
        self.assertTrue(modest_by_hand(book, paper), paper)
        return worth

    def test_of_no_stretches(self):
        for bounds in ([(0, 0)], [(-FAR, 24)], [(moment, moment % 3) for moment in range(24)]):
            self.assert_told((0, [], []), most_within, [], bounds)

    def test_of_one_stretch(self):
        for worth in (0, 1, FAR):
            book = [("a", 3, 8, worth)]
            for bounds in ([(3, 1)], [(-FAR, 1)], [(3, 1), (8, 0)], [(0, 0), (3, 24), (8, 0)], [(3, 2), (4, 1)]):
                self.assertEqual(self.most(book, bounds), worth)
            for bounds in ([(4, 1)], [(8, 24)], [(9, 24)], [(-FAR, 0)], [(0, 1), (7, 0)], [(0, 1), (3, 0), (4, 1)],
                           [(0, 1), (5, 0), (6, 1)], [(FAR, 3)]):
                self.assertEqual(self.most(book, bounds), 0)

    def test_bounds_of_0_alone(self):
        for book in (BOOK, whole_book(), piled_book(), drawn_far_book(random.Random(107))):
            self.assertEqual(self.most(book, [(-FAR, 0)]), 0)
            self.assertEqual(self.most(book, [(0, 0), (5, 0), (FAR, 0)]), 0)

    def test_bounds_of_24(self):
        for book in (BOOK, whole_book(), piled_book(), drawn_far_book(random.Random(108))):
            self.assertEqual(self.most(book, [(-FAR, 24)]), sum(stretch[3] for stretch in book))

    def test_nobody_ahead_of_the_first_step(self):
        self.assertEqual(self.most(BOOK, [(0, 24)]), 175)
        self.assertEqual(self.most(BOOK, [(1, 24)]), 140)
        self.assertEqual(self.most(BOOK, [(4, 24)]), 140)
        self.assertEqual(self.most(BOOK, [(5, 24)]), 100)
        self.assertEqual(self.most(BOOK, [(20, 1)]), 80)
        self.assertEqual(self.most(BOOK, [(21, 24)]), 0)
        self.assertEqual(self.most(BOOK, [(FAR, 24)]), 0)

    def test_bounds_that_rise_and_fall(self):
        self.assertEqual(self.most(BOOK, [(0, 1), (4, 2), (6, 1), (9, 0), (20, 1), (30, 0)]), 150)
        self.assertEqual(self.most(BOOK, [(0, 1), (4, 3), (6, 1), (9, 0), (20, 1), (30, 0)]), 150)
        self.assertEqual(self.most(BOOK, [(0, 2), (4, 3), (6, 1), (9, 0), (20, 1), (30, 0)]), 155)
        self.assertEqual(self.most(BOOK, [(0, 2), (4, 3), (6, 2), (9, 0), (20, 1), (30, 0)]), 175)
        self.assertEqual(self.most(BOOK, [(0, 2), (4, 1), (6, 2), (9, 0)]), 40)
        self.assertEqual(self.most(BOOK, [(0, 2), (4, 2), (6, 2), (9, 0)]), 70)
        self.assertEqual(self.most(BOOK, [(0, 0), (5, 1), (9, 0), (20, 1)]), 100)

    def test_steps_within_stretches(self):
        # Nothing begins or ends from 6 to 9: there the tightest bound counts, wherever it stands.
        for bounds in ([(0, 3), (7, 1), (8, 3)], [(0, 3), (8, 1)], [(0, 3), (6, 1), (7, 2), (8, 3)],
                       [(0, 3), (7, 2), (8, 1)], [(0, 3), (6, 1), (9, 3)]):
            self.assertEqual(self.most(BOOK, bounds), 155)
        for bounds in ([(0, 3), (7, 0), (8, 3)], [(0, 3), (8, 0), (9, 3)]):
            self.assertEqual(self.most(BOOK, bounds), 130)
        self.assertEqual(self.most(BOOK, [(0, 3), (25, 0), (26, 3)]), 95)

    def test_steps_far_from_all_stretches(self):
        for bounds in ([(-FAR, 0), (-1, 3), (10, 0), (15, 1), (31, 0), (FAR, 24)], [(-FAR, 3), (100, 0)],
                       [(-5, 9), (9, 0), (20, 1)]):
            self.assertEqual(self.most(BOOK, bounds), 175)
        self.assertEqual(self.most(BOOK, [(-FAR, 24), (-1, 0), (40, 24)]), 0)

    def test_far_out(self):
        book = [("a", -FAR, FAR, 9), ("b", -FAR, 0, 5), ("c", 0, FAR, 5), ("d", FAR - 1, FAR, 3),
                ("e", -FAR, 1 - FAR, 3)]
        for bounds in ([(-FAR, 1)], [(-FAR, 2)], [(-FAR, 3)], [(-FAR, 1), (FAR, 0)], [(-FAR, 1), (FAR - 1, 0)],
                       [(1 - FAR, 24)], [(-FAR, 2), (-7, 1), (-6, 2)], [(-FAR, 2), (7, 1), (FAR - 1, 2)]):
            self.assertEqual(self.most(book, bounds), most_within_by_hand(book, bounds))

    def test_small_books_against_all_some(self):
        draw = random.Random(109)
        for book in drawn_books(110, 150, most=7):
            for _ in range(4):
                bounds = drawn_bounds(draw, most=7)
                self.assertEqual(self.most(book, bounds), most_within_by_hand(book, bounds), (book, bounds))

    def test_small_books_within_many_steps(self):
        draw = random.Random(111)
        for book in drawn_books(112, 60, most=6, last=12):
            bounds = [(moment, draw.randint(0, 3)) for moment in range(-12, 12)]
            self.assertEqual(len(bounds), 24)
            self.assertEqual(self.most(book, bounds), most_within_by_hand(book, bounds), (book, bounds))

    def test_twenty_four_stretches_within_twenty_four_steps(self):
        draw = random.Random(113)
        for worths in ((0, FAR), (FAR - 1, FAR), (0, 1), (FAR, FAR)):
            for greatest in (2, 6, 24):
                for _ in range(4):
                    book = drawn_far_book(draw, worths=worths)
                    moments = [-FAR] + sorted(draw.sample(range(1 - FAR, FAR + 1), 23))
                    bounds = [(moment, draw.randint(greatest // 2, greatest)) for moment in moments]
                    self.most(book, bounds)

    def test_bounds_that_are_the_same_everywhere(self):
        draw = random.Random(114)
        books = drawn_books(115, 30, most=7) + [drawn_far_book(draw) for _ in range(4)] + [piled_book(), whole_book()]
        for book in books:
            for benches in (0, 1, 2, 3, 7, 24):
                worth = most_of(book, benches)[0]
                self.assertEqual(self.most(book, [(-FAR, benches)]), worth)
                steps = sorted({-FAR} | {stretch[1] + 1 for stretch in book} | {stretch[2] for stretch in book})[:24]
                self.assertEqual(self.most(book, [(moment, benches) for moment in steps]), worth)

    def test_no_more_prices_than_forty_seven(self):
        # Forty-eight unlike moments, and bounds that fall between all of them.
        book = [(NAMES[i], 10 * i, 500 + 20 * i, (i + 1) * (i + 1)) for i in range(24)]
        for greatest in (0, 1, 2, 5, 12, 24):
            self.most(book, [(10 * i + 5, greatest - (i % 2 if greatest else 0)) for i in range(24)])
            self.most(book, [(-FAR, greatest)] + [(500 + 20 * i + 5, max(0, greatest - i)) for i in range(23)])

    def test_openings_as_bounds(self):
        draw = random.Random(116)
        for book in drawn_books(117, 60, most=6):
            openings = [draw.randint(-9, 5) for _ in range(draw.randint(1, 4))]
            bounds = opened(openings)
            self.most(book, bounds)
            for some in every_some(book):
                if keeps_by_hand(book, bounds, some):
                    seats = late_seats(book, some, openings)
                    self.assertTrue(seats_by_hand(book, some, len(openings), seats))
                    self.assertTrue(all(openings[bench] <= book[i][1] for i, bench in zip(some, seats)))

    def test_twenty_four_openings(self):
        draw = random.Random(118)
        for _ in range(10):
            book = drawn_far_book(draw)
            openings = [draw.randint(-FAR, 0) for _ in range(24)]
            bounds = opened(openings)
            self.most(book, bounds)
            some = most_within(book, bounds)[1]
            seats = late_seats(book, some, openings)
            self.assertTrue(seats_by_hand(book, some, 24, seats))
            self.assertTrue(all(openings[bench] <= book[i][1] for i, bench in zip(some, seats)))


if __name__ == "__main__":
    unittest.main()
