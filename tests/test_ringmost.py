"""The most of a ring, by point 9.4 and 0.4 (f)."""

import random
import unittest

from benchworth.errors import TooMany
from benchworth.ringmost import ring_most
from benchworth.ringtrees import tree_claim
from tests.common import (FAR, NAMES, Told, drawn_ring, ring_choices_by_hand, ring_load_by_hand, ring_tree_by_hand,
                          some_by_hand, tuples_in_tree, worth_by_hand)

THREE = (3, [("a", 0, 2, 5), ("b", 1, 2, 5), ("c", 2, 2, 5)])


def drawn_wide_ring(draw, size=40, over=6, others=18, worths=(0, FAR)):
    """So many stretches over the moment 7, and so many that are not over it."""
    stretches = []
    for i in range(over):
        span = draw.randint(1, size)
        begin = (7 - draw.randrange(span)) % size
        stretches.append((NAMES[i], begin, span, draw.randint(*worths)))
    for i in range(over, over + others):
        place = draw.randint(1, size - 1)
        span = draw.randint(1, size - place)
        stretches.append((NAMES[i], (7 + place) % size, span, draw.randint(*worths)))
    draw.shuffle(stretches)
    return (size, stretches)


class MostOfRings(Told, unittest.TestCase):
    def looked_at(self, ring, benches):
        """The told worth: that the choice is one of this worth, and that the tree claims just it."""
        told = self.asked(ring_most, ring, benches)
        self.assertIs(type(told), tuple)
        worth, choice, tree = told
        self.assertIs(type(worth), int)
        self.assertTrue(some_by_hand(ring[1], choice), choice)
        for moment in range(ring[0]):
            self.assertLessEqual(ring_load_by_hand(ring, choice, moment), benches)
        self.assertEqual(worth_by_hand(ring[1], choice), worth)
        self.assert_alike(ring_tree_by_hand(ring, benches, tree), ("claims", worth))
        self.assert_alike(tree_claim(ring, benches, tree), worth)
        self.assertLessEqual(tuples_in_tree(tree), 500)
        return worth

    def test_no_stretches(self):
        for size in (1, 2, 40):
            for benches in (0, 1, 24):
                self.assertEqual(self.looked_at((size, []), benches), 0)

    def test_no_benches(self):
        self.assertEqual(self.looked_at(THREE, 0), 0)
        self.assertEqual(self.looked_at((1, [("a", 0, 1, FAR)]), 0), 0)

    def test_three_that_no_paper_holds(self):
        self.assertEqual([self.looked_at(THREE, benches) for benches in (0, 1, 2, 3, 24)], [0, 5, 15, 15, 15])

    def test_those_that_go_over_the_last_moment(self):
        ring = (6, [("a", 4, 4, 10), ("b", 2, 2, 7), ("c", 1, 3, 9), ("d", 5, 1, 8)])
        # a and b fill the ring; a and c meet at 1, a and d at 5.
        self.assertEqual([self.looked_at(ring, benches) for benches in (0, 1, 2, 3)], [0, 17, 34, 34])

    def test_size_1(self):
        for many in range(7):
            ring = (1, [(NAMES[i], 0, 1, 3 * i % 7) for i in range(many)])
            worths = sorted([stretch[3] for stretch in ring[1]], reverse=True)
            for benches in range(9):
                self.assertEqual(self.looked_at(ring, benches), sum(worths[:benches]))
        self.assertEqual(self.looked_at((1, [("a", 0, 1, 1)]), 24), 1)

    def test_too_many_at_size_1(self):
        for many in (7, 8, 24):
            ring = (1, [(NAMES[i], 0, 1, 1) for i in range(many)])
            for benches in (0, 1, 24):
                self.refused(TooMany, ring_most, ring, benches)

    def test_six_over_each_moment_and_seven(self):
        for size in (1, 2, 5, 40):
            six = [(NAMES[i], i % size, size, i + 1) for i in range(6)]
            self.assertEqual(self.looked_at((size, six), 2), 6 + 5)
            self.assertEqual(self.looked_at((size, six), 6), 21)
            for benches in (0, 1, 7, 24):
                self.refused(TooMany, ring_most, (size, six + [("z", 0, size, 1)]), benches)
            self.refused(TooMany, ring_most, (size, six + [("z", 0, size, 0), ("y", 0, 1, 5)]), 24)

    def test_one_moment_that_six_are_over(self):
        for size in (2, 3, 40):
            for free in (0, 1, size - 1):
                six = [(NAMES[i], i % size, size, 10 + i) for i in range(6)]
                # Over all moments but one: so just there six are over.
                beside = [(NAMES[6 + i], (free + 1) % size, size - 1, 20 + i) for i in range(18)]
                ring = (size, six + beside)
                for benches in (1, 6, 24):
                    worths = sorted([stretch[3] for stretch in ring[1]], reverse=True)
                    self.assertEqual(self.looked_at(ring, benches), sum(worths[:benches]))
                full = (size, six + beside[:-1] + [("z", free, 1, 0)])
                self.refused(TooMany, ring_most, full, 24)

    def test_it_is_a_value_error(self):
        self.assertRaises(ValueError, ring_most, (1, [(NAMES[i], 0, 1, 1) for i in range(7)]), 1)

    def test_small_rings_against_all_choices(self):
        draw = random.Random(161)
        for _ in range(200):
            ring = drawn_ring(draw, most=6)
            for benches in (0, 1, 2, 3, 6):
                with self.subTest((ring, benches)):
                    most = max(worth_by_hand(ring[1], some) for some in ring_choices_by_hand(ring, benches))
                    self.assertEqual(self.looked_at(ring, benches), most)

    def test_larger_rings_against_all_choices(self):
        draw = random.Random(162)
        for _ in range(6):
            ring = drawn_wide_ring(draw, size=9, over=4, others=6, worths=(0, 20))
            for benches in (1, 2, 4):
                most = max(worth_by_hand(ring[1], some) for some in ring_choices_by_hand(ring, benches))
                self.assertEqual(self.looked_at(ring, benches), most)

    def test_all_benches_of_a_full_ring(self):
        ring = drawn_wide_ring(random.Random(163))
        worths = [self.looked_at(ring, benches) for benches in range(25)]
        self.assertEqual(worths[0], 0)
        self.assertEqual(worths, sorted(worths))
        self.assertEqual(worths[24], sum(stretch[3] for stretch in ring[1]))

    def test_twenty_four_stretches(self):
        draw = random.Random(164)
        for _ in range(4):
            for size in (40, 12, 2):
                for benches in (1, 3, 7):
                    self.looked_at(drawn_wide_ring(draw, size=size), benches)

    def test_worths_of_0_and_the_greatest(self):
        for worth in (0, FAR):
            ring = (40, [(NAMES[i], 5 * i % 40, 9, worth) for i in range(24)])
            loads = [ring_load_by_hand(ring, range(24), moment) for moment in range(40)]
            self.assertLessEqual(min(loads), 6)
            # Four spans of nine lie on forty moments, but begins are five apart: so four a bench.
            for benches in (0, 1, 2, 24):
                told = self.looked_at(ring, benches)
                self.assertEqual(told, worth * min(24, {0: 0, 1: 4, 2: 8, 24: 24}[benches]))

    def test_a_changed_ring_is_another_one(self):
        ring = (6, [("a", 4, 4, 10), ("b", 0, 3, 9)])
        self.assertEqual(ring_most(ring, 1)[0], 10)
        ring[1][0] = ("a", 4, 2, 10)
        self.assertEqual(ring_most(ring, 1)[0], 19)


if __name__ == "__main__":
    unittest.main()
