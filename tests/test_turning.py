"""Books and papers turned about, moved, stretched, dearer, by points 12.1 and 0.4 (i)."""

import random
import unittest

from benchworth.books import look_at_book
from benchworth.errors import NoTurn
from benchworth.papers import claim, is_paper
from benchworth.turning import (dearer, dearer_paper, moved, moved_paper, stretched, stretched_paper, turned,
                                turned_paper)
from tests.common import (FAR, ODD_THINGS, SIXTY, Told, claim_by_hand, drawn_book, drawn_far_book, drawn_paper,
                          whole_book)

BOOK = [("b", -3, 5, 10), ("a", 5, 9, 0), ("c", 0, 1, 7)]
PAPER = [(-3, 4), (0, 1), (8, 9)]

NO_NUMBERS = [thing for thing in ODD_THINGS] + [[], [1], "-1"]
NO_FACTORS = NO_NUMBERS + [0, -1, 10 ** 6 + 1, SIXTY, -SIXTY, -10 ** 6]


def full_paper():
    return [(moment, moment + 1) for moment in range(48)]


class Turned(Told, unittest.TestCase):
    def test_of_nothing(self):
        self.assert_told([], turned, [])
        self.assert_told([], turned_paper, [])

    def test_of_one(self):
        self.assert_told([("a", -5, -2, 7)], turned, [("a", 2, 5, 7)])
        self.assert_told([("a", -FAR, FAR, 7)], turned, [("a", -FAR, FAR, 7)])
        self.assert_told([("a", FAR - 1, FAR, 7)], turned, [("a", -FAR, -FAR + 1, 7)])
        for moment in (0, 1, -1, 5, -FAR, FAR - 1):
            self.assert_told([(-moment - 1, 7)], turned_paper, [(moment, 7)])

    def test_of_many(self):
        self.assert_told([("b", -5, 3, 10), ("a", -9, -5, 0), ("c", -1, 0, 7)], turned, BOOK)
        self.assert_told([(-9, 9), (-1, 1), (2, 4)], turned_paper, PAPER)
        self.assert_told([(-moment - 1, moment + 1) for moment in range(47, -1, -1)], turned_paper, full_paper())

    def test_twice(self):
        for book in (BOOK, whole_book(), []):
            self.assert_told(book, turned, turned(book))
        for paper in (PAPER, full_paper(), [(-FAR, 1), (FAR - 1, 2)]):
            self.assert_told(paper, turned_paper, turned_paper(paper))


class Moved(Told, unittest.TestCase):
    def test_of_nothing(self):
        for by in (0, 1, -1, FAR, SIXTY, -SIXTY):
            self.assert_told([], moved, [], by)
            self.assert_told([], moved_paper, [], by)

    def test_of_one_and_many(self):
        self.assert_told([("a", 4, 9, 7)], moved, [("a", -1, 4, 7)], 5)
        self.assert_told([("b", -10, -2, 10), ("a", -2, 2, 0), ("c", -7, -6, 7)], moved, BOOK, -7)
        self.assert_told([(4, 4), (7, 1), (15, 9)], moved_paper, PAPER, 7)
        self.assert_told([(6, 7)], moved_paper, [(3, 7)], 3)

    def test_by_0(self):
        for book in (BOOK, whole_book(), [("a", -FAR, FAR, 1)]):
            self.assert_told(book, moved, book, 0)
        for paper in (PAPER, full_paper(), [(-FAR, 1), (FAR - 1, 1)]):
            self.assert_told(paper, moved_paper, paper, 0)

    def test_there_and_back(self):
        for by in (1, -1, 17, FAR - 9, -FAR + 3):
            self.assert_told(BOOK, moved, moved(BOOK, by), -by)
            self.assert_told(PAPER, moved_paper, moved_paper(PAPER, by), -by)

    def test_just_at_the_bounds_and_one_beyond(self):
        self.assert_told([("b", FAR - 12, FAR - 4, 10), ("a", FAR - 4, FAR, 0), ("c", FAR - 9, FAR - 8, 7)],
                         moved, BOOK, FAR - 9)
        self.refused(NoTurn, moved, BOOK, FAR - 8)
        self.assert_told([("b", -FAR, -FAR + 8, 10), ("a", -FAR + 8, -FAR + 12, 0), ("c", -FAR + 3, -FAR + 4, 7)],
                         moved, BOOK, -FAR + 3)
        self.refused(NoTurn, moved, BOOK, -FAR + 2)
        self.assert_told([(FAR - 12, 4), (FAR - 9, 1), (FAR - 1, 9)], moved_paper, PAPER, FAR - 9)
        self.refused(NoTurn, moved_paper, PAPER, FAR - 8)
        self.assert_told([(-FAR, 4), (-FAR + 3, 1), (-FAR + 11, 9)], moved_paper, PAPER, -FAR + 3)
        self.refused(NoTurn, moved_paper, PAPER, -FAR + 2)
        self.assert_told([("a", -FAR, -FAR + 1, 1)], moved, [("a", FAR - 1, FAR, 1)], -2 * FAR + 1)
        self.refused(NoTurn, moved, [("a", -FAR, FAR, 1)], 1)
        self.refused(NoTurn, moved, [("a", -FAR, FAR, 1)], -1)

    def test_by_numbers_of_sixty_figures(self):
        for by in (SIXTY, -SIXTY, 10 ** 59):
            self.refused(NoTurn, moved, BOOK, by)
            self.refused(NoTurn, moved_paper, PAPER, by)

    def test_by_no_number(self):
        for by in NO_NUMBERS:
            for book in ([], BOOK, whole_book()):
                self.refused(NoTurn, moved, book, by)
            for paper in ([], PAPER):
                self.refused(NoTurn, moved_paper, paper, by)


class Stretched(Told, unittest.TestCase):
    def test_of_nothing(self):
        for factor in (1, 2, 10 ** 6):
            self.assert_told([], stretched, [], factor)
            self.assert_told([], stretched_paper, [], factor)

    def test_of_one_and_many(self):
        self.assert_told([("a", 6, 15, 7)], stretched, [("a", 2, 5, 7)], 3)
        self.assert_told([("b", -30, 50, 10), ("a", 50, 90, 0), ("c", 0, 10, 7)], stretched, BOOK, 10)
        self.assert_told([(15, 2)], stretched_paper, [(5, 2)], 3)
        self.assert_told([(-30, 4), (0, 1), (80, 9)], stretched_paper, PAPER, 10)

    def test_by_1_and_by_the_greatest(self):
        for book in (BOOK, whole_book(), [("a", -FAR, FAR, FAR)]):
            self.assert_told(book, stretched, book, 1)
        for paper in (PAPER, full_paper(), [(-FAR, 1), (FAR - 1, 10 * FAR)]):
            self.assert_told(paper, stretched_paper, paper, 1)
        self.assert_told([("a", -3 * 10 ** 6, 5 * 10 ** 6, 9)], stretched, [("a", -3, 5, 9)], 10 ** 6)
        self.assert_told([(-3 * 10 ** 6, 4), (0, 1), (8 * 10 ** 6, 9)], stretched_paper, PAPER, 10 ** 6)

    def test_just_at_the_bounds_and_one_beyond(self):
        million = 10 ** 6
        self.assert_told([("a", -FAR, FAR, 1)], stretched, [("a", -million, million, 1)], million)
        self.refused(NoTurn, stretched, [("a", -million, million + 1, 1)], million)
        self.refused(NoTurn, stretched, [("a", -million - 1, million, 1)], million)
        self.refused(NoTurn, stretched, BOOK + [("d", 0, FAR // 2 + 1, 1)], 2)
        self.assert_told([("d", 0, FAR, 1)], stretched, [("d", 0, FAR // 2, 1)], 2)
        self.assert_told([(-FAR, 1), (FAR - 2, 1)], stretched_paper, [(-FAR // 2, 1), (FAR // 2 - 1, 1)], 2)
        self.refused(NoTurn, stretched_paper, [(FAR // 2, 1)], 2)
        self.refused(NoTurn, stretched_paper, [(-FAR // 2 - 1, 1), (0, 1)], 2)
        self.refused(NoTurn, stretched_paper, [(million, 1)], million)
        self.assert_told([(-FAR, 1)], stretched_paper, [(-million, 1)], million)
        # One that ends at the bound stretches no more.
        self.refused(NoTurn, stretched, [("a", 0, FAR, 1)], 2)

    def test_by_no_factor(self):
        for factor in NO_FACTORS:
            for book in ([], BOOK):
                self.refused(NoTurn, stretched, book, factor)
            for paper in ([], PAPER):
                self.refused(NoTurn, stretched_paper, paper, factor)


class Dearer(Told, unittest.TestCase):
    def test_of_nothing(self):
        for factor in (1, 2, 10 ** 6):
            self.assert_told([], dearer, [], factor)
            self.assert_told([], dearer_paper, [], factor)

    def test_of_one_and_many(self):
        self.assert_told([("a", 2, 5, 21)], dearer, [("a", 2, 5, 7)], 3)
        self.assert_told([("b", -3, 5, 100), ("a", 5, 9, 0), ("c", 0, 1, 70)], dearer, BOOK, 10)
        self.assert_told([(5, 6)], dearer_paper, [(5, 2)], 3)
        self.assert_told([(-3, 40), (0, 10), (8, 90)], dearer_paper, PAPER, 10)

    def test_by_1_and_by_the_greatest(self):
        for book in (BOOK, whole_book(), [("a", -FAR, FAR, FAR)]):
            self.assert_told(book, dearer, book, 1)
        for paper in (PAPER, full_paper(), [(-FAR, 1), (FAR - 1, 10 * FAR)]):
            self.assert_told(paper, dearer_paper, paper, 1)
        self.assert_told([("a", -3, 5, 9 * 10 ** 6)], dearer, [("a", -3, 5, 9)], 10 ** 6)
        self.assert_told([(-3, 4 * 10 ** 6), (0, 10 ** 6), (8, 9 * 10 ** 6)], dearer_paper, PAPER, 10 ** 6)

    def test_just_at_the_bounds_and_one_beyond(self):
        self.assert_told([("a", 0, 1, FAR)], dearer, [("a", 0, 1, 10 ** 6)], 10 ** 6)
        self.refused(NoTurn, dearer, [("a", 0, 1, 10 ** 6 + 1)], 10 ** 6)
        self.assert_told([("a", 0, 1, FAR)], dearer, [("a", 0, 1, FAR // 2)], 2)
        self.refused(NoTurn, dearer, BOOK + [("d", 0, 1, FAR // 2 + 1)], 2)
        self.refused(NoTurn, dearer, [("d", 0, 1, FAR // 2 + 1)] + BOOK, 2)
        self.assert_told([(0, 10 * FAR)], dearer_paper, [(0, 10 ** 7)], 10 ** 6)
        self.refused(NoTurn, dearer_paper, [(0, 10 ** 7 + 1)], 10 ** 6)
        self.refused(NoTurn, dearer_paper, [(0, 1), (1, 5 * FAR + 1), (2, 1)], 2)
        self.assert_told([(0, 2), (1, 10 * FAR), (2, 2)], dearer_paper, [(0, 1), (1, 5 * FAR), (2, 1)], 2)

    def test_by_no_factor(self):
        for factor in NO_FACTORS:
            for book in ([], BOOK, [("a", 0, 1, 0)]):
                self.refused(NoTurn, dearer, book, factor)
            for paper in ([], PAPER):
                self.refused(NoTurn, dearer_paper, paper, factor)

    def test_it_is_a_value_error(self):
        for question in (moved, moved_paper, stretched, stretched_paper, dearer, dearer_paper):
            self.assertRaises(ValueError, question, [], None)


class ClaimsGoOn(Told, unittest.TestCase):
    """What a paper claims of a book is what it claims, done alike, of the book done alike."""

    def alike_claims(self, book, paper, benches):
        expected = claim(book, benches, paper)
        self.assertEqual(expected, claim_by_hand(book, benches, paper))
        pairs = [(turned(book), turned_paper(paper), 1)]
        pairs += [(moved(book, by), moved_paper(paper, by), 1) for by in (0, 1, -1, 1000, -10 ** 9)]
        pairs += [(stretched(book, by), stretched_paper(paper, by), 1) for by in (1, 2, 7, 10 ** 6)]
        pairs += [(dearer(book, by), dearer_paper(paper, by), by) for by in (1, 2, 7, 10 ** 6)]
        for other_book, other_paper, times in pairs:
            look_at_book(other_book)
            self.assertTrue(is_paper(other_paper))
            self.assertEqual(claim(other_book, benches, other_paper), expected * times)

    def test_drawn(self):
        draw = random.Random(211)
        for _ in range(150):
            book, paper = drawn_book(draw), drawn_paper(draw)
            for benches in (0, 1, 3, 24):
                self.alike_claims(book, paper, benches)

    def test_prices_at_begins_and_ends(self):
        for moment in (-4, -3, 0, 4, 5, 8, 9):
            self.alike_claims(BOOK, [(moment, 3)], 2)

    def test_far_books(self):
        draw = random.Random(212)
        for _ in range(20):
            book = drawn_far_book(draw)
            moments = sorted({stretch[1] + step for stretch in book for step in (-1, 0) if stretch[1] > -FAR})[:48]
            paper = [(moment, draw.randint(1, 10 * FAR)) for moment in moments]
            for benches in (0, 3, 24):
                self.assertEqual(claim(turned(book), benches, turned_paper(paper)), claim(book, benches, paper))


if __name__ == "__main__":
    unittest.main()
