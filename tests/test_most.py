"""The most, by points 5.1, 5.2 and 0.4 (b)."""

import random
import unittest

from benchworth.most import held_against, most_of
from tests.common import (FAR, NAMES, Told, choice_by_hand, claim_by_hand, drawn_books, drawn_far_book, every_some,
                          greatest_by_hand, modest_by_hand, most_by_hand, paper_by_hand, peak_by_hand, piled_book,
                          whole_book, worth_by_hand)

BOOK = [("a", 0, 5, 10), ("b", 5, 9, 20), ("c", 4, 6, 40), ("d", 0, 9, 25), ("e", 20, 30, 80)]


class Looks(Told):
    def assert_choice(self, book, benches, choice, worth):
        self.assertTrue(choice_by_hand(book, benches, choice), choice)
        self.assertEqual(worth_by_hand(book, choice), worth)

    def assert_paper(self, book, benches, paper, worth):
        self.assertTrue(paper_by_hand(paper), paper)
        self.assertEqual(claim_by_hand(book, benches, paper), worth)

    def most(self, book, benches):
        """The told worth; that it is the most: some choice has it, and a paper shows that none has more."""
        told = self.asked(most_of, book, benches)
        self.assertIs(type(told), tuple)
        worth, choice, paper = told
        self.assertIs(type(worth), int)
        self.assert_choice(book, benches, choice, worth)
        self.assert_paper(book, benches, paper, worth)
        self.assertTrue(modest_by_hand(book, paper), paper)
        return worth


class Most(Looks, unittest.TestCase):
    def test_of_no_stretches(self):
        for benches in (0, 1, 2, 23, 24):
            self.assert_told((0, [], []), most_of, [], benches)

    def test_of_one_stretch(self):
        for stretch in (("a", 0, 1, 7), ("a", -FAR, FAR, FAR), ("a", FAR - 1, FAR, 1), ("a", 3, 8, 0)):
            with self.subTest(stretch):
                self.assertEqual(self.most([stretch], 0), 0)
                for benches in (1, 2, 24):
                    self.assertEqual(self.most([stretch], benches), stretch[3])

    def test_by_hand(self):
        # One bench holds c and e, two a and b beside these, three all.
        for benches, worth in ((0, 0), (1, 120), (2, 150), (3, 175), (4, 175), (24, 175)):
            with self.subTest(benches):
                self.assertEqual(self.most(BOOK, benches), worth)
                self.assertEqual(self.most(BOOK[::-1], benches), worth)

    def test_two_that_touch_share_a_bench(self):
        self.assertEqual(self.most([("a", 0, 5, 1), ("b", 5, 9, 1)], 1), 2)
        self.assertEqual(self.most([("a", 0, 6, 1), ("b", 5, 9, 1)], 1), 1)
        self.assertEqual(self.most([("a", 5, 9, 1), ("b", 0, 5, 1)], 1), 2)

    def test_the_dearest_first_is_not_enough(self):
        book = [("a", 0, 10, 10), ("b", 0, 4, 6), ("c", 4, 7, 6), ("d", 7, 10, 6)]
        self.assertEqual(self.most(book, 1), 18)
        self.assertEqual(self.most(book, 2), 28)

    def test_what_was_chosen_for_fewer_benches_may_go_elsewhere(self):
        book = [("a", 0, 4, 5), ("b", 2, 8, 9), ("c", 6, 10, 5), ("d", 3, 7, 6)]
        for benches in range(6):
            self.assertEqual(self.most(book, benches), most_by_hand(book, benches))

    def test_begins_and_ends_alike(self):
        book = [(name, 3, 8, worth) for name, worth in zip(NAMES, (5, 9, 9, 1, 0, 4))]
        for benches, worth in enumerate((0, 9, 18, 23, 27, 28, 28, 28)):
            self.assertEqual(self.most(book, benches), worth)
        begins = [(name, 0, i + 1, 10 * (i + 1)) for i, name in enumerate(NAMES[:6])]
        ends = [(name, -i - 1, 0, 10 * (i + 1)) for i, name in enumerate(NAMES[:6])]
        for benches in range(8):
            worth = sum((60, 50, 40, 30, 20, 10)[:benches])
            self.assertEqual(self.most(begins, benches), worth)
            self.assertEqual(self.most(ends, benches), worth)

    def test_worths_of_0(self):
        for benches in (0, 1, 2, 24):
            self.assertEqual(self.most([(name, 0, 9, 0) for name in NAMES[:5]], benches), 0)
            self.assertEqual(self.most([("a", 0, 9, 0), ("b", 3, 5, 1), ("c", 4, 9, 0)], benches), min(benches, 1))

    def test_the_greatest_worths(self):
        alike = [(name, i, i + 9, FAR) for i, name in enumerate(NAMES[:24])]
        for benches in (0, 1, 2, 5, 8, 9, 10, 24):
            self.most(alike, benches)
        self.assertEqual(self.most(alike, 9), 24 * FAR)
        self.assertEqual(self.most(alike, 1), 3 * FAR)
        piled = [(name, -FAR, FAR, FAR) for name in NAMES[:24]]
        for benches in (0, 1, 23, 24):
            self.assertEqual(self.most(piled, benches), benches * FAR)
        mixed = [(name, i, i + 9, (FAR, 0, FAR - 1)[i % 3]) for i, name in enumerate(NAMES[:24])]
        for benches in (0, 1, 2, 5, 24):
            self.most(mixed, benches)

    def test_moments_far_out(self):
        book = [("a", -FAR, FAR, 5), ("b", -FAR, 0, 3), ("c", 0, FAR, 3), ("d", -FAR, -FAR + 1, 1),
                ("e", FAR - 1, FAR, 1)]
        for benches in range(5):
            self.assertEqual(self.most(book, benches), most_by_hand(book, benches))

    def test_up_to_the_greatest_load_and_beyond(self):
        for book in (whole_book(), piled_book(), BOOK, piled_book(7)):
            every = list(range(len(book)))
            peak = peak_by_hand(book, every)
            worths = [self.most(book, benches) for benches in range(25)]
            self.assertEqual(worths[0], 0)
            self.assertEqual(worths[peak:], [worth_by_hand(book, every)] * (25 - peak))
            self.assertEqual(worths, sorted(worths))

    def test_piled_up(self):
        for benches in (0, 1, 2, 12, 23, 24):
            self.assertEqual(self.most(piled_book(), benches), sum(range(24 - benches + 1, 25)))

    def test_gaps_have_no_prices(self):
        book = [("a", 0, 2, 5), ("b", 10, 12, 7), ("c", 11, 13, 9), ("d", 100, 101, 3)]
        for benches, worth in ((0, 0), (1, 17), (2, 24), (3, 24)):
            self.assertEqual(self.most(book, benches), worth)

    def test_small_books_against_all_choices(self):
        for book in drawn_books(71, 150, most=7):
            for benches in range(5):
                best = max(worth_by_hand(book, some) for some in every_some(book)
                           if greatest_by_hand(book, some) <= benches)
                self.assertEqual(self.most(book, benches), best, (book, benches))
            self.assertEqual(self.most(book, 24), sum(stretch[3] for stretch in book))

    def test_books_of_twenty_four_stretches(self):
        draw = random.Random(72)
        for worths in ((0, FAR), (FAR - 1, FAR), (0, 1), (1, 9), (FAR, FAR)):
            for _ in range(8):
                book = drawn_far_book(draw, worths=worths)
                for benches in (0, 1, 2, 3, 5, 8, 12, 24):
                    self.most(book, benches)

    def test_books_of_twenty_four_stretches_with_few_moments(self):
        draw = random.Random(73)
        for last in (2, 4, 9, 24):
            for _ in range(10):
                book = []
                for name in NAMES[:24]:
                    begin, end = sorted(draw.sample(range(last + 1), 2))
                    book.append((name, begin, end, draw.randint(0, FAR)))
                for benches in (0, 1, 3, 7, 24):
                    self.most(book, benches)

    def test_neighbours_in_a_chain(self):
        chain = [(NAMES[i], 10 * i, 10 * i + 11, FAR - i % 2) for i in range(24)]
        self.assertEqual(self.most(chain, 1), 12 * FAR)
        self.assertEqual(self.most(chain, 2), 24 * FAR - 12)
        nested = [(NAMES[i], -i - 1, i + 1, FAR - i) for i in range(24)]
        self.assertEqual(self.most(nested, 1), FAR)
        self.assertEqual(self.most(nested, 3), 3 * FAR - 3)

    def test_as_many_prices_as_may_be(self):
        # No two begins or ends alike: so there are forty-eight moments, and places for forty-seven prices.
        book = [(NAMES[i], i, 24 + i * i + i, (i + 1) * (i + 1)) for i in range(24)]
        for benches in range(25):
            self.most(book, benches)


class HeldAgainst(Looks, unittest.TestCase):
    def held(self, book, benches, choice):
        """The word; that what stands beside it holds."""
        told = self.asked(held_against, book, benches, choice)
        self.assertIs(type(told), tuple)
        word, what = told
        if word == "most":
            self.assert_paper(book, benches, what, worth_by_hand(book, choice))
        else:
            self.assertEqual(word, "more")
            self.assertTrue(choice_by_hand(book, benches, what), what)
            self.assertGreater(worth_by_hand(book, what), worth_by_hand(book, choice))
        return word

    def test_against_a_best_choice(self):
        self.assertEqual(self.held(BOOK, 1, [2, 4]), "most")
        self.assertEqual(self.held(BOOK, 2, [0, 1, 2, 4]), "most")
        self.assertEqual(self.held(BOOK, 3, [0, 1, 2, 3, 4]), "most")
        self.assertEqual(self.held(BOOK, 24, [0, 1, 2, 3, 4]), "most")

    def test_against_one_of_several_best_choices(self):
        book = [("a", 0, 5, 7), ("b", 4, 9, 7), ("c", 2, 6, 7), ("d", 3, 4, 0)]
        for choice in ([0], [1], [2]):
            self.assertEqual(self.held(book, 1, choice), "most")
        self.assertEqual(self.held(book, 1, [1, 3]), "most")
        self.assertEqual(self.held(book, 1, [3]), "more")

    def test_against_one_that_is_worth_less(self):
        self.assertEqual(self.held(BOOK, 1, [0, 1, 4]), "more")
        self.assertEqual(self.held(BOOK, 1, [2]), "more")
        self.assertEqual(self.held(BOOK, 2, [2, 4]), "more")
        self.assertEqual(self.held(BOOK, 24, [0, 1, 2, 3]), "more")
        by_one = [("a", 0, 5, FAR - 1), ("b", 4, 9, FAR)]
        self.assertEqual(self.held(by_one, 1, [0]), "more")
        self.assertEqual(self.held(by_one, 1, [1]), "most")

    def test_against_none_of_the_book(self):
        for benches in (1, 2, 24):
            self.assertEqual(self.held(BOOK, benches, []), "more")
            self.assertEqual(self.held([], benches, []), "most")
            self.assertEqual(self.held([("a", 0, 5, 0)], benches, []), "most")
            self.assertEqual(self.held([("a", 0, 5, 1)], benches, []), "more")

    def test_for_no_benches(self):
        for book in (BOOK, [], whole_book(), piled_book(), [("a", 0, 5, 0)]):
            self.assertEqual(self.held(book, 0, []), "most")

    def test_all_choices_of_small_books(self):
        words = []
        for book in drawn_books(74, 40, most=5):
            for benches in range(4):
                best = most_by_hand(book, benches)
                for some in every_some(book):
                    if greatest_by_hand(book, some) <= benches:
                        word = "most" if worth_by_hand(book, some) == best else "more"
                        self.assertEqual(self.held(book, benches, some), word)
                        words.append(word)
        self.assertGreater(words.count("most"), 100)
        self.assertGreater(words.count("more"), 100)

    def test_twenty_four(self):
        self.assertEqual(self.held(piled_book(), 23, list(range(1, 24))), "most")
        self.assertEqual(self.held(piled_book(), 23, list(range(23))), "more")
        self.assertEqual(self.held(whole_book(), 1, list(range(1, 24, 2))), "most")
        self.assertEqual(self.held(whole_book(), 1, list(range(0, 24, 2))), "more")
        self.assertEqual(self.held(whole_book(), 24, list(range(24))), "most")


if __name__ == "__main__":
    unittest.main()
