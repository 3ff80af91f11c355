"""Rings of time, by points 9.1, 9.2 and 0.4 (f) as far as papers go."""

import random
import unittest

from benchworth.errors import NoRing
from benchworth.rings import (is_over_ring, is_ring_choice, is_ring_paper, look_at_ring, ring_claim, ring_loads)
from tests.common import (FAR, NAMES, ODD_THINGS, SIXTY, Told, drawn_paper, drawn_ring, every_some, ring_load_by_hand,
                          ring_rests_by_hand, under_by_hand, worth_by_hand)

# a goes over the last moment, b is over all of them, c over one, d up to the last one.
RING = (6, [("a", 4, 4, 10), ("b", 3, 6, 20), ("c", 5, 1, 40), ("d", 2, 4, 0)])
# Three stretches, each over two of three moments: load 2 everywhere.
THREE = (3, [("a", 0, 2, 5), ("b", 1, 2, 5), ("c", 2, 2, 5)])
GOOD = [("a", 0, 1, 1), ("b", 3, 4, 2)]


def whole_ring():
    """Twenty-four stretches on forty moments, each over sixteen of them."""
    return (40, [(NAMES[i], i + 10, 16, i) for i in range(24)])


class LooksAtRings(Told, unittest.TestCase):
    def is_ring(self, thing):
        with self.subTest(thing):
            self.assert_told(None, look_at_ring, thing)

    def no_ring(self, number, thing):
        with self.subTest((number, thing)):
            refusal = self.refused(NoRing, look_at_ring, thing)
            self.assert_alike(refusal.number, number)

    def faulty(self, fault, size=6):
        """That the fault is found at the begin, in the middle and at the end."""
        self.no_ring(0, (size, [fault]))
        self.no_ring(0, (size, [fault] + GOOD))
        self.no_ring(1, (size, GOOD[:1] + [fault] + GOOD[1:]))
        self.no_ring(2, (size, GOOD + [fault]))

    def test_rings(self):
        for ring in (RING, THREE, (1, []), (40, []), (1, [("a", 0, 1, 0)]), (6, GOOD), whole_ring(),
                     (2, [("b", 1, 2, FAR), ("a", 1, 2, FAR), ("ab", 0, 1, 0)])):
            self.is_ring(ring)

    def test_sizes(self):
        for size in (1, 2, 39, 40):
            self.is_ring((size, []))
            self.is_ring((size, [("a", 0, 1, 1)]))
        for size in (0, 41, 42, -1, -40, SIXTY, -SIXTY, True, False, None, "6", [6], (6,)):
            self.no_ring(None, (size, []))
            self.no_ring(None, (size, [("a", 0, 1, 1)]))
            self.no_ring(None, (size, [None]))

    def test_no_such_tuple(self):
        for thing in ODD_THINGS + [0, 6, [6, []], [], (6,), (6, [], []), ([], 6), ((6, []),), [(6, [])], {6: []},
                                   (6, None), (6, ()), (6, tuple(GOOD)), (6, {}), (6, "ab"), (6, 3), (6, True),
                                   (6, GOOD, 0), (None, None)]:
            self.no_ring(None, thing)

    def test_begins(self):
        for begin in (0, 1, 5):
            self.is_ring((6, [("a", begin, 2, 1)]))
        for begin in (-1, 6, 7, -6, SIXTY, -SIXTY, True, False, None, "0", [0]):
            self.faulty(("c", begin, 2, 1))
        self.is_ring((40, [("a", 39, 1, 1)]))
        self.faulty(("c", 40, 1, 1), size=40)
        self.is_ring((1, [("a", 0, 1, 1)]))
        self.no_ring(0, (1, [("a", 1, 1, 1)]))

    def test_spans(self):
        for span in (1, 2, 5, 6):
            self.is_ring((6, [("a", 5, span, 1)]))
            self.is_ring((6, [("a", 0, span, 1)]))
        for span in (0, -1, 7, 8, SIXTY, True, False, None, "2", [2]):
            self.faulty(("c", 5, span, 1))
            self.faulty(("c", 0, span, 1))
        self.is_ring((40, [("a", 17, 40, 1)]))
        self.faulty(("c", 17, 41, 1), size=40)
        self.no_ring(0, (1, [("a", 0, 2, 1)]))

    def test_worths(self):
        for worth in (0, 1, FAR):
            self.is_ring((6, [("a", 0, 2, worth)]))
        for worth in (-1, FAR + 1, SIXTY, True, False, None, "1", [1]):
            self.faulty(("c", 0, 2, worth))

    def test_names(self):
        for name in ("c", "abcdefgh"):
            self.is_ring((6, GOOD + [(name, 0, 2, 1)]))
        for name in ("", "abcdefghi", "C", "c1", "c ", " c", "c\n", None, 0, True, b"c", ["c"], ("c",)):
            self.faulty((name, 0, 2, 1))

    def test_forms(self):
        for fault in ODD_THINGS + [0, 7, [], ["c", 0, 2, 1], ("c", 0, 2), ("c", 0, 2, 1, 1), [("c", 0, 2, 1)],
                                   (0, "c", 2, 1), ("c", 0, 1, 2, 1)]:
            self.faulty(fault)

    def test_a_name_that_stands_already(self):
        self.no_ring(1, (6, [("a", 0, 2, 1), ("a", 3, 2, 1)]))
        self.no_ring(1, (6, [("a", 0, 2, 1), ("a", 0, 2, 1)]))
        self.no_ring(2, (6, GOOD + [("a", 0, 2, 1)]))
        self.no_ring(2, (6, GOOD + [("b", 0, 2, 1), ("c", 0, 2, 1)]))
        self.no_ring(23, (40, whole_ring()[1][:23] + [("a", 0, 2, 1)]))

    def test_twenty_four_and_twenty_five(self):
        size, stretches = whole_ring()
        self.is_ring((40, stretches))
        self.no_ring(24, (40, stretches + [("y", 0, 2, 1)]))
        self.no_ring(24, (40, stretches + [("y", 0, 2, 1), ("z", 0, 2, 1)]))
        self.no_ring(24, (40, stretches + [None]))
        self.no_ring(24, (40, stretches + [("a", 0, 2, 1)]))

    def test_the_first_of_several_faults(self):
        twice, bad = ("a", 0, 2, 1), ("c", 9, 2, 1)
        self.no_ring(1, (6, [twice, twice, bad]))
        self.no_ring(1, (6, [twice, bad, twice]))
        self.no_ring(0, (6, [bad, twice, twice]))
        self.no_ring(0, (6, [("a", 0, 7, 1), ("a", 0, 6, 1)]))
        size, stretches = whole_ring()
        self.no_ring(3, (40, stretches[:3] + [None] + stretches[3:] + [None]))
        self.no_ring(0, (1, stretches))
        self.no_ring(None, (0, [bad]))

    def test_it_is_a_value_error(self):
        self.assertRaises(ValueError, look_at_ring, None)


class OverRings(Told, unittest.TestCase):
    def over(self, ring, i, moments):
        for moment in range(ring[0]):
            with self.subTest((i, moment)):
                self.assert_told(moment in moments, is_over_ring, ring, i, moment)

    def test_one_that_goes_over_the_last_moment(self):
        self.over(RING, 0, (4, 5, 0, 1))
        self.over((6, [("a", 5, 2, 1)]), 0, (5, 0))
        self.over((6, [("a", 5, 5, 1)]), 0, (5, 0, 1, 2, 3))

    def test_one_that_is_over_all_of_them(self):
        self.over(RING, 1, range(6))
        self.over((6, [("a", 0, 6, 1)]), 0, range(6))
        self.over((40, [("a", 39, 40, 1)]), 0, range(40))

    def test_one_that_is_over_one(self):
        self.over(RING, 2, (5,))
        self.over((6, [("a", 0, 1, 1)]), 0, (0,))
        self.over((1, [("a", 0, 1, 1)]), 0, (0,))

    def test_one_up_to_the_last_moment(self):
        self.over(RING, 3, (2, 3, 4, 5))
        self.over((6, [("a", 0, 5, 1)]), 0, (0, 1, 2, 3, 4))

    def test_each_begin_and_span(self):
        for size in (1, 2, 3, 5):
            for begin in range(size):
                for span in range(1, size + 1):
                    self.over((size, [("a", begin, span, 1)]), 0, [(begin + k) % size for k in range(span)])


class RingLoads(Told, unittest.TestCase):
    def test_of_none(self):
        self.assert_told([0] * 6, ring_loads, RING, [])
        self.assert_told([0], ring_loads, (1, []), [])
        self.assert_told([0] * 40, ring_loads, (40, []), [])

    def test_of_some(self):
        self.assert_told([1, 1, 0, 0, 1, 1], ring_loads, RING, [0])
        self.assert_told([1, 1, 1, 1, 1, 1], ring_loads, RING, [1])
        self.assert_told([1, 1, 0, 0, 1, 2], ring_loads, RING, [0, 2])
        self.assert_told([1, 1, 1, 1, 2, 2], ring_loads, RING, [0, 3])

    def test_of_all(self):
        self.assert_told([2, 2, 2, 2, 3, 4], ring_loads, RING, [0, 1, 2, 3])
        self.assert_told([2, 2, 2], ring_loads, THREE, [0, 1, 2])
        self.assert_told([24], ring_loads, (1, [(name, 0, 1, 1) for name in NAMES[:24]]), list(range(24)))

    def test_drawn(self):
        draw = random.Random(141)
        for _ in range(60):
            ring = drawn_ring(draw)
            for some in every_some(ring[1]):
                expected = [ring_load_by_hand(ring, some, moment) for moment in range(ring[0])]
                self.assert_told(expected, ring_loads, ring, some)


class RingChoices(Told, unittest.TestCase):
    def right(self, ring, benches, thing):
        with self.subTest((benches, thing)):
            self.assert_told(True, is_ring_choice, ring, benches, thing)

    def wrong(self, ring, benches, thing):
        with self.subTest((benches, thing)):
            self.assert_told(False, is_ring_choice, ring, benches, thing)

    def test_none_of_a_ring(self):
        for benches in (0, 1, 24):
            for ring in (RING, THREE, (1, []), (40, [])):
                self.right(ring, benches, [])

    def test_no_list(self):
        for thing in ODD_THINGS + [0, 1, (0,), (0, 1), {0: 0}, {0}, "01"]:
            self.wrong(RING, 24, thing)
            self.wrong((6, []), 24, thing)

    def test_numbers_below_and_beyond(self):
        self.right(RING, 24, [0])
        self.right(RING, 24, [3])
        for some in ([-1], [-4], [-1, 0], [4], [0, 4], [SIXTY], [-SIXTY], [0, 1, 2, 3, 4]):
            self.wrong(RING, 24, some)
        self.wrong((6, []), 24, [0])
        self.right(whole_ring(), 24, [23])
        self.wrong(whole_ring(), 24, [24])

    def test_numbers_twice_or_not_rising(self):
        for some in ([0, 0], [3, 3], [1, 0], [0, 2, 1], [0, 1, 1], [3, 2, 1, 0]):
            self.wrong(RING, 24, some)
        self.right(RING, 24, [0, 1, 2, 3])

    def test_other_things_among_the_numbers(self):
        for thing in ODD_THINGS + [[], [0]]:
            self.wrong(RING, 24, [thing])
            self.wrong(RING, 24, [0, thing])
            self.wrong(RING, 24, [thing, 2])

    def test_loads_at_the_benches_and_above(self):
        for some, load in (([0], 1), ([1], 1), ([0, 1], 2), ([0, 2], 2), ([2, 3], 2), ([0, 2, 3], 3),
                           ([0, 1, 2, 3], 4)):
            for benches in range(25):
                if benches >= load:
                    self.right(RING, benches, some)
                else:
                    self.wrong(RING, benches, some)

    def test_loads_not_seats_count(self):
        self.right(THREE, 2, [0, 1, 2])
        self.wrong(THREE, 1, [0, 1])
        self.wrong(THREE, 1, [0, 2])

    def test_one_that_ends_where_another_begins(self):
        ring = (6, [("a", 4, 3, 1), ("b", 1, 3, 1), ("c", 0, 4, 1)])
        self.right(ring, 1, [0, 1])
        self.wrong(ring, 1, [0, 2])

    def test_no_bench(self):
        for number in range(4):
            self.wrong(RING, 0, [number])

    def test_against_loads_by_hand(self):
        draw = random.Random(142)
        for _ in range(60):
            ring = drawn_ring(draw)
            for some in every_some(ring[1]):
                load = max(ring_load_by_hand(ring, some, moment) for moment in range(ring[0]))
                for benches in range(6):
                    self.assertIs(is_ring_choice(ring, benches, some), load <= benches)


class RingPapers(Told, unittest.TestCase):
    def right(self, ring, thing):
        with self.subTest(thing):
            self.assert_told(True, is_ring_paper, ring, thing)

    def wrong(self, ring, thing):
        with self.subTest(thing):
            self.assert_told(False, is_ring_paper, ring, thing)

    def test_ordinary_ones(self):
        for ring in (RING, THREE, (1, []), (40, [])):
            self.right(ring, [])
            self.right(ring, [(0, 1)])
        self.right(RING, [(0, 1), (2, 10 * FAR), (5, 7)])

    def test_moments_of_the_ring(self):
        for size in (1, 2, 6, 40):
            ring = (size, [])
            self.right(ring, [(moment, 1) for moment in range(size)])
            self.right(ring, [(size - 1, 1)])
            self.wrong(ring, [(size, 1)])
            self.wrong(ring, [(-1, 1)])
            self.wrong(ring, [(0, 1), (size, 1)])
            self.wrong(ring, [(-1, 1), (0, 1)])
            self.wrong(ring, [(FAR - 1, 1)])
            self.wrong(ring, [(-FAR, 1)])
            self.wrong(ring, [(SIXTY, 1)])

    def test_prices(self):
        self.right(RING, [(0, 10 * FAR)])
        for price in (0, -1, 10 * FAR + 1, SIXTY, True, False, None, "1", [1]):
            self.wrong(RING, [(0, price)])
            self.wrong(RING, [(0, 1), (2, price)])

    def test_moments_that_do_not_rise(self):
        for paper in ([(3, 1), (3, 1)], [(3, 1), (2, 1)], [(0, 1), (3, 1), (3, 2)], [(2, 1), (1, 1), (3, 1)]):
            self.wrong(RING, paper)

    def test_true_and_false(self):
        for part in ((True, 1), (False, 1), (0, True), (1, False)):
            self.wrong(RING, [part])
            self.wrong(RING, [part, (5, 1)])

    def test_other_forms(self):
        for thing in ODD_THINGS + [0, (), ((0, 1),), (0, 1), [[0, 1]], [(0, 1), [1, 1]], [(0,)], [(0, 1, 1)], [0],
                                   [None], [()], ["ab"], [("0", 1)], [(None, 1)], [([], 1)], {0: 1}, {(0, 1)}]:
            self.wrong(RING, thing)


class RingClaims(Told, unittest.TestCase):
    def test_without_prices(self):
        for benches in (0, 1, 24):
            self.assert_told(70, ring_claim, RING, benches, [])
            self.assert_told(15, ring_claim, THREE, benches, [])
            self.assert_told(0, ring_claim, (6, []), benches, [])

    def test_of_no_stretches(self):
        for benches in (0, 1, 2, 24):
            self.assert_told(17 * benches, ring_claim, (6, []), benches, [(0, 10), (5, 7)])

    def test_with_prices(self):
        # At 0 lie a and b, at 5 lie all: the rests are 0, 3, 30 and 0.
        paper = [(0, 7), (5, 10)]
        for benches in (0, 1, 2, 24):
            self.assert_told(17 * benches + 33, ring_claim, RING, benches, paper)

    def test_rests_around_0(self):
        for price, rest in ((39, 1), (40, 0), (41, 0)):
            self.assert_told(rest, ring_claim, (6, [("c", 5, 1, 40)]), 0, [(5, price)])
            self.assert_told(rest + price, ring_claim, (6, [("c", 5, 1, 40)]), 1, [(5, price)])
            self.assert_told(40, ring_claim, (6, [("c", 5, 1, 40)]), 0, [(0, price), (4, price)])

    def test_one_that_goes_over_the_last_moment(self):
        ring = (6, [("a", 4, 4, 100)])
        for moment, toll in enumerate((7, 7, 0, 0, 7, 7)):
            self.assert_told(100 - toll, ring_claim, ring, 0, [(moment, 7)])
        self.assert_told(100 - 28, ring_claim, ring, 0, [(moment, 7) for moment in range(6)])

    def test_three_on_one_bench(self):
        # No paper claims just what one of the three is worth: half prices would be wanted.
        self.assert_told(9, ring_claim, THREE, 1, [(0, 3), (1, 3), (2, 3)])
        self.assert_told(9, ring_claim, THREE, 1, [(0, 2), (1, 2), (2, 2)])
        self.assert_told(15, ring_claim, THREE, 2, [])

    def test_the_greatest(self):
        ring = (40, [(name, 0, 40, FAR) for name in NAMES[:24]])
        self.assert_told(24 * FAR, ring_claim, ring, 24, [])
        self.assert_told(24 * 40 * 10 * FAR, ring_claim, ring, 24, [(moment, 10 * FAR) for moment in range(40)])

    def test_drawn(self):
        draw = random.Random(143)
        for _ in range(80):
            ring = drawn_ring(draw)
            paper = [(moment, price) for moment, price in drawn_paper(draw) if 0 <= moment < ring[0]]
            prices = sum(price for moment, price in paper)
            for benches in (0, 1, 3, 24):
                self.assert_told(prices * benches + ring_rests_by_hand(ring, paper), ring_claim, ring, benches, paper)

    def test_no_choice_is_worth_more(self):
        draw = random.Random(144)
        for _ in range(60):
            ring = drawn_ring(draw)
            papers = [[(moment, draw.randint(1, 9)) for moment in range(ring[0]) if draw.random() < 0.5]
                      for _ in range(5)]
            for some in every_some(ring[1]):
                load = max(ring_load_by_hand(ring, some, moment) for moment in range(ring[0]))
                for paper in papers:
                    for benches in (load, load + 1, 24):
                        self.assertLessEqual(worth_by_hand(ring[1], some), ring_claim(ring, benches, paper))

    def test_a_changed_ring_is_another_one(self):
        ring = (6, [("a", 4, 4, 10)])
        self.assert_alike(ring_loads(ring, [0]), [1, 1, 0, 0, 1, 1])
        ring[1][0] = ("a", 0, 1, 7)
        self.assert_alike(ring_loads(ring, [0]), [1, 0, 0, 0, 0, 0])
        self.assert_alike(ring_claim(ring, 1, [(0, 2)]), 7)
        self.assertEqual(under_by_hand(ring, 0), [0])


if __name__ == "__main__":
    unittest.main()
