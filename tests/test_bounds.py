"""Bounds, by point 7.1."""

import random
import unittest

from benchworth.bounds import are_bounds, bound_at, keeps, opened
from tests.common import (FAR, ODD_THINGS, SIXTY, Told, drawn_books, drawn_bounds, every_some, keeps_by_hand,
                          load_by_hand, near_moments, piled_book, whole_book)

BOOK = [("a", 0, 5, 10), ("b", 5, 9, 20), ("c", 4, 6, 40), ("d", 0, 9, 0), ("e", 20, 30, 80)]
EVERY = [0, 1, 2, 3, 4]


class LooksAtBounds(Told, unittest.TestCase):
    def right(self, thing):
        with self.subTest(thing):
            self.assert_told(True, are_bounds, thing)

    def wrong(self, thing):
        with self.subTest(thing):
            self.assert_told(False, are_bounds, thing)

    def test_how_many_steps(self):
        self.wrong([])
        for many in (1, 2, 23, 24):
            self.right([(moment, 1) for moment in range(many)])
        self.wrong([(moment, 1) for moment in range(25)])
        self.wrong([(moment, 1) for moment in range(26)])

    def test_ordinary_ones(self):
        self.right([(0, 3)])
        self.right([(-5, 3), (0, 0), (1, 24), (9, 3)])
        # Nothing bars neighbours with one bound.
        self.right([(0, 3), (1, 3)])
        self.right([(0, 0), (1, 0)])

    def test_bounds_of_moments(self):
        self.right([(-FAR, 1)])
        self.wrong([(-FAR - 1, 1)])
        self.right([(FAR, 1)])
        self.wrong([(FAR + 1, 1)])
        self.right([(-FAR, 1), (FAR, 1)])
        self.wrong([(-FAR - 1, 1), (FAR, 1)])
        self.wrong([(-FAR, 1), (FAR + 1, 1)])
        self.wrong([(-SIXTY, 1)])
        self.wrong([(SIXTY, 1)])

    def test_bounds_of_bounds(self):
        self.right([(0, 0)])
        self.wrong([(0, -1)])
        self.right([(0, 24)])
        self.wrong([(0, 25)])
        self.wrong([(0, SIXTY)])
        self.wrong([(0, 1), (1, -1)])
        self.wrong([(0, 25), (1, 1)])
        self.wrong([(0, 1), (1, 25), (2, 1)])

    def test_moments_that_do_not_rise(self):
        self.wrong([(3, 1), (3, 1)])
        self.wrong([(3, 1), (3, 2)])
        self.wrong([(3, 1), (2, 1)])
        self.wrong([(1, 1), (3, 1), (3, 2)])
        self.wrong([(3, 1), (3, 2), (4, 1)])
        self.wrong([(2, 1), (1, 1), (3, 1)])
        self.right([(1, 3), (2, 2), (3, 1)])

    def test_true_and_false(self):
        for part in ((True, 1), (False, 1), (0, True), (0, False), (False, False)):
            self.wrong([part])
            self.wrong([(-5, 1), part])
            self.wrong([part, (5, 1)])

    def test_lists_for_tuples_and_tuples_for_the_list(self):
        self.wrong([[0, 1]])
        self.wrong([(0, 1), [1, 1]])
        self.wrong(())
        self.wrong(((0, 1),))
        self.wrong((0, 1))

    def test_other_parts(self):
        for part in ODD_THINGS + [(0,), (0, 1, 1), ("0", 1), (0, "1"), (None, 1), (0, None), ([], 1), (0, []), "ab",
                                  0, 1, [], {0: 1, 1: 1}]:
            if part != (1, 2):
                self.wrong([part])
                self.wrong([(-5, 1), part])
                self.wrong([part, (5, 1)])

    def test_other_things(self):
        for thing in ODD_THINGS + [0, 1, SIXTY, {0: 1}, {(0, 1)}, "from 0 1"]:
            self.wrong(thing)


class BoundAt(Told, unittest.TestCase):
    def test_ahead_of_at_and_behind_the_steps(self):
        bounds = [(-3, 2), (4, 0), (7, 24), (8, 5)]
        for moment, bound in ((-SIXTY, 0), (-FAR, 0), (-5, 0), (-4, 0), (-3, 2), (-2, 2), (0, 2), (3, 2), (4, 0),
                              (6, 0), (7, 24), (8, 5), (9, 5), (100, 5), (FAR, 5), (SIXTY, 5)):
            with self.subTest(moment):
                self.assert_told(bound, bound_at, bounds, moment)

    def test_of_one_step(self):
        for moment, bound in ((-1, 0), (0, 7), (1, 7), (FAR, 7)):
            self.assert_told(bound, bound_at, [(0, 7)], moment)

    def test_at_the_ends(self):
        bounds = [(-FAR, 3), (FAR, 1)]
        for moment, bound in ((-FAR - 1, 0), (-FAR, 3), (-FAR + 1, 3), (FAR - 1, 3), (FAR, 1), (FAR + 1, 1)):
            self.assert_told(bound, bound_at, bounds, moment)

    def test_of_twenty_four_steps(self):
        bounds = [(10 * i, (7 * i) % 25) for i in range(24)]
        for i in range(24):
            self.assert_told((7 * i) % 25, bound_at, bounds, 10 * i)
            self.assert_told((7 * i) % 25, bound_at, bounds, 10 * i + 9)
        self.assert_told(0, bound_at, bounds, -1)


class Keeps(Told, unittest.TestCase):
    def kept(self, book, bounds, some):
        with self.subTest((bounds, some)):
            self.assert_told(True, keeps, book, bounds, some)

    def broken(self, book, bounds, some):
        with self.subTest((bounds, some)):
            self.assert_told(False, keeps, book, bounds, some)

    def test_none_of_the_book(self):
        for bounds in ([(0, 0)], [(FAR, 0)], [(-FAR, 24)], [(0, 3), (5, 0)]):
            self.kept(BOOK, bounds, [])
            self.kept([], bounds, [])

    def test_just_at_the_bound_and_one_above_it(self):
        # The loads are 2 from 0 on, 3 from 4 on, 2 from 6 on, 0 from 9 on, 1 from 20 to 30.
        self.kept(BOOK, [(0, 3)], EVERY)
        self.broken(BOOK, [(0, 2)], EVERY)
        self.kept(BOOK, [(0, 2), (4, 3), (6, 2), (9, 0), (20, 1), (30, 0)], EVERY)
        for tight in (0, 4, 6, 20):
            steps = [(0, 2), (4, 3), (6, 2), (9, 0), (20, 1), (30, 0)]
            self.broken(BOOK, [(moment, bound - (moment == tight)) for moment, bound in steps], EVERY)

    def test_a_bound_that_falls_within_a_stretch(self):
        self.kept(BOOK, [(0, 1), (30, 0)], [4])
        self.broken(BOOK, [(0, 1), (29, 0)], [4])
        self.broken(BOOK, [(0, 1), (21, 0)], [4])
        self.broken(BOOK, [(0, 1), (20, 0)], [4])
        self.broken(BOOK, [(0, 1), (25, 0), (26, 1)], [4])
        self.kept(BOOK, [(0, 1), (19, 0), (20, 1), (30, 0)], [4])

    def test_a_bound_that_falls_between_two_moments_of_the_book(self):
        # Nothing of the book begins or ends from 6 to 9.
        self.broken(BOOK, [(0, 3), (7, 1)], EVERY)
        self.broken(BOOK, [(0, 3), (7, 1), (8, 3)], EVERY)
        self.kept(BOOK, [(0, 3), (7, 2), (8, 3)], EVERY)
        # Nothing is there from 9 to 20.
        self.kept(BOOK, [(0, 3), (10, 0), (15, 2)], EVERY)
        self.broken(BOOK, [(0, 3), (10, 0)], EVERY)

    def test_a_bound_that_rises_too_late(self):
        self.kept(BOOK, [(0, 2), (4, 3)], EVERY)
        self.broken(BOOK, [(0, 2), (5, 3)], EVERY)
        self.broken(BOOK, [(0, 0), (21, 1)], [4])
        self.kept(BOOK, [(0, 0), (20, 1)], [4])

    def test_a_stretch_that_begins_ahead_of_the_first_step(self):
        self.broken(BOOK, [(1, 24)], [0])
        self.kept(BOOK, [(0, 24)], [0])
        self.broken(BOOK, [(21, 24)], [4])
        self.broken(BOOK, [(100, 24)], [4])
        self.broken(BOOK, [(5, 24)], [0])
        self.kept(BOOK, [(5, 24)], [1, 4])

    def test_those_that_are_not_among_some(self):
        self.kept(BOOK, [(0, 1)], [0, 1, 4])
        self.kept(BOOK, [(4, 1)], [2, 4])
        self.broken(BOOK, [(4, 1)], [1, 2])
        self.kept(BOOK, [(4, 1), (5, 2), (9, 1)], [1, 2, 4])

    def test_far_out(self):
        far = [("a", -FAR, FAR, 1), ("b", -FAR, 0, 1), ("c", 0, FAR, 1)]
        self.kept(far, [(-FAR, 2)], [0, 1, 2])
        self.kept(far, [(-FAR, 2), (FAR, 0)], [0, 1, 2])
        self.broken(far, [(-FAR, 2), (FAR - 1, 0)], [0, 1, 2])
        self.broken(far, [(-FAR, 2), (FAR - 1, 1)], [0, 2])
        self.kept(far, [(-FAR, 2), (FAR - 1, 1)], [0, 1])
        self.broken(far, [(-FAR + 1, 2)], [0, 1, 2])
        self.broken(far, [(-FAR, 2), (5, 1), (6, 2)], [0, 1, 2])

    def test_twenty_four(self):
        every = list(range(24))
        self.kept(piled_book(), [(-FAR, 24)], every)
        self.broken(piled_book(), [(-FAR, 23)], every)
        self.kept(piled_book(), [(-FAR, 23)], every[1:])
        self.kept(piled_book(), [(-FAR + i, i + 1) for i in every], every)
        self.broken(piled_book(), [(-FAR + i, i + (i != 17)) for i in every], every)
        self.kept(whole_book(), [(0, 2)], every)
        self.broken(whole_book(), [(0, 2), (111, 1), (112, 2)], every)
        self.kept(whole_book(), [(0, 2), (116, 1), (117, 2)], every)

    def test_some_of_small_books(self):
        draw = random.Random(91)
        seen = []
        for book in drawn_books(92, 80, most=5):
            for some in every_some(book):
                bounds = drawn_bounds(draw)
                expected = all(load_by_hand(book, some, moment)
                               <= ([0] + [bound for begin, bound in bounds if begin <= moment])[-1]
                               for moment in near_moments(book))
                self.assertEqual(keeps_by_hand(book, bounds, some), expected)
                self.assert_told(expected, keeps, book, bounds, some)
                seen.append(expected)
        self.assertGreater(seen.count(True), 100)
        self.assertGreater(seen.count(False), 100)


class Opened(Told, unittest.TestCase):
    def test_of_one_opening(self):
        for moment in (0, -FAR, FAR, 17):
            self.assert_told([(moment, 1)], opened, [moment])

    def test_of_alike_ones(self):
        self.assert_told([(5, 2)], opened, [5, 5])
        self.assert_told([(5, 24)], opened, [5] * 24)
        self.assert_told([(-FAR, 3)], opened, [-FAR] * 3)

    def test_of_unlike_ones(self):
        self.assert_told([(0, 1), (5, 2)], opened, [0, 5])
        self.assert_told([(0, 1), (5, 2)], opened, [5, 0])
        self.assert_told([(-FAR, 1), (3, 2), (FAR, 3)], opened, [3, FAR, -FAR])
        self.assert_told([(-10, 1), (-9, 2), (2, 3), (11, 4)], opened, [11, -9, 2, -10])

    def test_of_alike_and_unlike_ones(self):
        self.assert_told([(0, 2), (5, 3), (7, 6)], opened, [7, 0, 7, 5, 0, 7])
        self.assert_told([(0, 1), (5, 3)], opened, [5, 0, 5])

    def test_of_twenty_four(self):
        self.assert_told([(moment, moment + 1) for moment in range(24)], opened, list(range(24)))
        self.assert_told([(moment, moment + 1) for moment in range(24)], opened, list(range(24))[::-1])
        self.assert_told([(moment, 2 * moment + 2) for moment in range(12)], opened, list(range(12)) * 2)

    def test_what_is_told_are_bounds_with_as_many_as_are_open(self):
        draw = random.Random(93)
        for _ in range(200):
            openings = [draw.randint(-9, 9) for _ in range(draw.randint(1, 24))]
            bounds = self.asked(opened, openings)
            self.assertTrue(are_bounds(bounds))
            self.assertEqual([moment for moment, bound in bounds], sorted(set(openings)))
            for moment in range(-11, 12):
                self.assertEqual(bound_at(bounds, moment), len([one for one in openings if one <= moment]))


if __name__ == "__main__":
    unittest.main()
