"""The row of a book, by points 6.2 and 0.4 (c)."""

import random
import unittest

from benchworth.rowlook import lets_row
from benchworth.rows import more_by, most_by, row_of
from tests.common import (FAR, NAMES, Told, drawn_books, drawn_far_book, every_some, greatest_by_hand, peak_by_hand,
                          piled_book, row_by_hand, whole_book, worth_by_hand)

BOOK = [("a", 0, 5, 10), ("b", 5, 9, 20), ("c", 4, 6, 40), ("d", 0, 9, 25), ("e", 20, 30, 80)]


class Rows(Told, unittest.TestCase):
    def row(self, book):
        """The told row; that it is one, that it is let by, and that what a bench more brings never rises."""
        row = self.asked(row_of, book)
        self.assertTrue(row_by_hand(book, row), row)
        self.assert_told(True, lets_row, book, row)
        worths = [worth for worth, choice in row[1]]
        more = [later - worth for worth, later in zip(worths, worths[1:])]
        self.assertEqual(more, sorted(more, reverse=True))
        self.assertTrue(all(one >= 0 for one in more))
        return row

    def worths(self, book):
        return [worth for worth, choice in self.row(book)[1]]

    def test_of_no_stretches(self):
        self.assert_told(("row", [(0, [])], [[]]), row_of, [])
        self.row([])

    def test_of_one_stretch(self):
        for worth in (0, 1, FAR):
            self.assertEqual(self.worths([("a", -FAR, FAR, worth)]), [0, worth])

    def test_by_hand(self):
        self.assertEqual(self.worths(BOOK), [0, 120, 150, 175])
        self.assertEqual(self.worths(BOOK[::-1]), [0, 120, 150, 175])

    def test_as_many_steps_as_the_greatest_load_and_one_more(self):
        for book, many in ((BOOK, 4), (whole_book(), 3), (piled_book(), 25), (piled_book(5), 6),
                           ([("a", 0, 5, 1), ("b", 5, 9, 1)], 2), ([(name, 0, 1, 0) for name in NAMES[:24]], 25)):
            word, steps, papers = self.row(book)
            self.assertEqual((len(steps), len(papers)), (many, many))

    def test_worths_of_0(self):
        self.assertEqual(self.worths([(name, 0, 9, 0) for name in NAMES[:4]]), [0] * 5)
        self.assertEqual(self.worths([("a", 0, 9, 0), ("b", 3, 5, 6), ("c", 4, 9, 0)]), [0, 6, 6, 6])

    def test_piled_up(self):
        self.assertEqual(self.worths(piled_book()), [sum(range(25 - benches, 25)) for benches in range(25)])

    def test_small_books_against_all_choices(self):
        for book in drawn_books(81, 150, most=7):
            row = self.row(book)
            best = [max(worth_by_hand(book, some) for some in every_some(book)
                        if greatest_by_hand(book, some) <= benches) for benches in range(9)]
            for benches in range(8):
                self.assert_told(best[benches], most_by, row, benches)
                self.assert_told(best[benches + 1] - best[benches], more_by, row, benches)
            for benches in (8, 23, 24):
                self.assert_told(best[8], most_by, row, benches)
                self.assert_told(0, more_by, row, benches)

    def test_books_of_twenty_four_stretches(self):
        draw = random.Random(82)
        for worths in ((0, FAR), (FAR - 1, FAR), (0, 1), (FAR, FAR)):
            for _ in range(8):
                book = drawn_far_book(draw, worths=worths)
                row = self.row(book)
                every = list(range(24))
                self.assertEqual(len(row[1]), peak_by_hand(book, every) + 1)
                self.assertEqual(most_by(row, 24), worth_by_hand(book, every))

    def test_a_row_is_the_askers_own(self):
        book = list(BOOK)
        row = row_of(book)
        row[1][1][1].append(0)
        row[1].pop()
        row[2][0].clear()
        self.assertEqual(self.worths(book), [0, 120, 150, 175])
        kept = row_of(book)
        book.pop()
        self.assertTrue(row_by_hand(BOOK, kept))


class ByRows(Told, unittest.TestCase):
    def test_at_0_at_the_last_step_and_beyond(self):
        row = row_of(BOOK)
        for benches, most, more in ((0, 0, 120), (1, 120, 30), (2, 150, 25), (3, 175, 0), (4, 175, 0), (24, 175, 0)):
            with self.subTest(benches):
                self.assert_told(most, most_by, row, benches)
                self.assert_told(more, more_by, row, benches)

    def test_of_no_stretches(self):
        for benches in (0, 1, 23, 24):
            self.assert_told(0, most_by, ("row", [(0, [])], [[]]), benches)
            self.assert_told(0, more_by, ("row", [(0, [])], [[]]), benches)

    def test_of_twenty_five_steps(self):
        row = row_of(piled_book())
        for benches in range(25):
            self.assert_told(sum(range(25 - benches, 25)), most_by, row, benches)
            self.assert_told(24 - benches, more_by, row, benches)

    def test_of_a_row_that_another_wrote(self):
        book = [("a", 0, 5, 7), ("b", 4, 9, 7), ("c", 4, 5, 0)]
        row = ("row", [(0, []), (7, [1]), (14, [0, 1]), (14, [0, 1, 2])], [[(4, 7)], [(4, 7)], [], []])
        self.assertTrue(lets_row(book, row))
        self.assertEqual([most_by(row, benches) for benches in range(6)], [0, 7, 14, 14, 14, 14])
        self.assertEqual([more_by(row, benches) for benches in range(6)], [7, 7, 0, 0, 0, 0])

    def test_the_greatest(self):
        row = row_of([(name, -FAR, FAR, FAR) for name in NAMES[:24]])
        for benches in (0, 1, 23):
            self.assert_told(benches * FAR, most_by, row, benches)
            self.assert_told(FAR, more_by, row, benches)
        self.assert_told(24 * FAR, most_by, row, 24)
        self.assert_told(0, more_by, row, 24)


if __name__ == "__main__":
    unittest.main()
