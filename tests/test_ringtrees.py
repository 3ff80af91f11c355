"""Trees for rings, by point 9.3 and 0.4 (f)."""

import random
import unittest
from copy import deepcopy

from benchworth.errors import NoTree
from benchworth.ringtrees import tree_claim
from tests.common import (FAR, NAMES, ODD_THINGS, SIXTY, Told, drawn_ring, drawn_ring_tree, otherwise,
                          ring_choices_by_hand, ring_tree_by_hand, tuples_in_tree, ways_of, with_at,
                          worth_by_hand)

# a is over 4, 5, 0 and 1, b over all six, c over 5, d over 2 to 5.
RING = (6, [("a", 4, 4, 10), ("b", 3, 6, 20), ("c", 5, 1, 40), ("d", 2, 4, 5)])
# Three stretches, each over two of three moments.
THREE = (3, [("a", 0, 2, 5), ("b", 1, 2, 5), ("c", 2, 2, 5)])
# Twenty-four on one moment each, for trees of many splits.
WIDE = (24, [(NAMES[i], i, 1, i) for i in range(24)])

NOTHING = ("prices", [])


def full_tree(depth, leaf=NOTHING, first=0):
    """A tree with splits of the stretches from the first one on, so many deep: 2 ** (depth + 1) - 1 tuples."""
    if depth == 0:
        return deepcopy(leaf)
    return ("split", first, [full_tree(depth - 1, leaf, first + 1), full_tree(depth - 1, leaf, first + 1)])


def grown_tree(splits, first=0):
    """A tree of just so many splits, and one leaf more: 2 * splits + 1 tuples."""
    if splits == 0:
        return ("prices", [])
    half = (splits - 1) // 2
    return ("split", first, [grown_tree(splits - 1 - half, first + 1), grown_tree(half, first + 1)])


class TreeCase(Told, unittest.TestCase):
    def claims(self, expected, ring, benches, tree):
        with self.subTest((benches, tree)):
            self.assert_told(expected, tree_claim, ring, benches, tree)

    def no_tree(self, way, ring, benches, thing):
        with self.subTest((benches, thing)):
            refusal = self.refused(NoTree, tree_claim, ring, benches, thing)
            self.assert_alike(refusal.way, way)

    def no_tree_anywhere(self, thing, ring=RING, benches=1):
        """That the thing can't stand at the root, nor as either tree of a split, nor deeper beneath."""
        self.no_tree([], ring, benches, thing)
        for way in ([0], [1], [0, 1], [1, 0], [1, 1]):
            tree = ("split", 3, [("split", 1, [NOTHING, NOTHING]), ("split", 1, [NOTHING, NOTHING])])
            self.no_tree(way, ring, benches, with_at(tree, way, thing))


class Claims(TreeCase):
    def test_prices_at_the_root(self):
        for benches in (0, 1, 2, 24):
            self.claims(75, RING, benches, ("prices", []))
            # At 5 are all: rests 3, 13, 33 and 0; at 2 b and d, at 0 a and b.
            self.claims(7 * benches + 49, RING, benches, ("prices", [(5, 7)]))
            self.claims(17 * benches + 10 + 3 + 40, RING, benches, ("prices", [(2, 17)]))

    def test_of_no_stretches(self):
        for benches in (0, 1, 24):
            self.claims(0, (5, []), benches, ("prices", []))
            self.claims(3 * benches, (5, []), benches, ("prices", [(0, 1), (4, 2)]))

    def test_a_split_claims_the_greatest(self):
        # With a in: 10, price 7 at 5 once less, the rests of b, c, d; out: no 10, no toll of a.
        tree = ("split", 0, [("prices", [(5, 7)]), ("prices", [(5, 7)])])
        self.claims(max(10 + 7 * 1 + 46, 7 * 2 + 46), RING, 2, tree)
        self.claims(max(10 + 7 * 0 + 46, 7 * 1 + 46), RING, 1, tree)
        self.claims(max(10 - 7 + 46, 46), RING, 0, tree)
        self.claims(65, RING, 0, ("split", 0, [("prices", [(5, 100)]), ("prices", [])]))
        self.claims(75, RING, 1, ("split", 0, [("prices", []), ("prices", [(5, 40)])]))

    def test_prices_below_just_at_and_above_the_benches(self):
        # a and b in: at 4 and 5 the load is 2, at 2 and 3 it is 1. The outer ways claim little.
        small = ("prices", [(2, 100), (5, 100)])
        for benches, price_5, price_2 in ((0, -2, -1), (1, -1, 0), (2, 0, 1), (3, 1, 2), (24, 22, 23)):
            for paper, expected in (([(5, 1)], price_5 + 30 + 39 + 4), ([(2, 1)], price_2 + 30 + 40 + 4),
                                    ([(2, 3), (5, 2)], 3 * price_2 + 2 * price_5 + 30 + 38)):
                tree = ("split", 0, [("split", 1, [("prices", paper), small]), small])
                least = max(100 * (2 * benches - 1) + 10, 200 * benches)
                self.claims(max(expected, least), RING, benches, tree)

    def test_a_price_far_above_the_worths_counts_below_0_times(self):
        ring = (2, [("a", 0, 1, 4), ("b", 0, 1, 6)])
        tree = ("split", 0, [("split", 1, [("prices", [(0, 10 * FAR)]), NOTHING]), ("prices", [(0, 10 * FAR)])])
        # Both in: 10 less twice the price; a in alone: 4; a out: b has no rest.
        self.claims(4, ring, 0, tree)
        # Both in: 10 less the price; a in alone: 4; a out: the price.
        self.claims(10 * FAR, ring, 1, tree)

    def test_a_claim_may_be_below_0_beneath(self):
        ring = (1, [("a", 0, 1, 3)])
        self.claims(0, ring, 0, ("split", 0, [("prices", [(0, 50)]), ("prices", [(0, 50)])]))

    def test_crowds(self):
        # c in: one at 5; with a in, too: two there.
        tree = ("split", 2, [("split", 0, [("crowd", 5), NOTHING]), NOTHING])
        self.claims(65, RING, 1, tree)
        self.no_tree([0, 0], RING, 2, tree)
        self.claims(35, RING, 0, ("split", 2, [("crowd", 5), NOTHING]))

    def test_a_crowd_claims_nothing(self):
        self.claims(5, THREE, 1, ("split", 0, [("split", 1, [("crowd", 1), ("prices", [(0, 5)])]),
                                              ("prices", [(2, 5)])]))

    def test_the_stretches_in_are_not_tolled_twice(self):
        self.claims(10, (2, [("a", 0, 1, 10)]), 1, ("split", 0, [("prices", [(0, 3)]), NOTHING]))
        self.claims(10, (2, [("a", 0, 1, 10)]), 1, ("split", 0, [("prices", [(0, 10)]), ("prices", [(1, 3)])]))

    def test_drawn_against_those_by_hand(self):
        draw = random.Random(151)
        for _ in range(250):
            ring = drawn_ring(draw)
            benches = draw.choice([0, 1, 1, 2, 3, 24])
            tree = drawn_ring_tree(draw, ring, benches)
            kind, expected = ring_tree_by_hand(ring, benches, tree)
            self.assertEqual(kind, "claims")
            self.claims(expected, ring, benches, tree)

    def test_no_choice_is_worth_more(self):
        draw = random.Random(152)
        for _ in range(150):
            ring = drawn_ring(draw)
            for benches in (0, 1, 2, 3):
                most = max(worth_by_hand(ring[1], some) for some in ring_choices_by_hand(ring, benches))
                for _ in range(3):
                    self.assertGreaterEqual(tree_claim(ring, benches, drawn_ring_tree(draw, ring, benches)), most)


class Refusals(TreeCase):
    def test_things_of_any_kind(self):
        for thing in ODD_THINGS + [0, 1, [], [NOTHING], ["prices", []], list(NOTHING), "prices", ("prices",),
                                   (NOTHING,), ([], "prices"), {"prices": []}]:
            self.no_tree_anywhere(thing)

    def test_words_that_are_none(self):
        for word in ("price", "Prices", "prices ", "", "sit", "meet", "leaf", None, True, 0, b"prices", ["prices"],
                     ("prices",)):
            self.no_tree_anywhere((word, []))
            self.no_tree_anywhere((word, 0))
            self.no_tree_anywhere((word, 0, [NOTHING, NOTHING]))

    def test_tuples_too_short_or_too_long(self):
        for thing in (("prices",), ("prices", [], []), ("prices", [], None), ("crowd",), ("crowd", 5, 5), ("split",),
                      ("split", 0), ("split", [NOTHING, NOTHING]), ("split", 0, NOTHING, NOTHING),
                      ("split", 0, [NOTHING, NOTHING], None), ("prices", 0, [NOTHING, NOTHING]), ("split", []), ()):
            self.no_tree_anywhere(thing)

    def test_a_list_for_a_tuple(self):
        for thing in (["prices", []], ["crowd", 5], ["split", 0, [NOTHING, NOTHING]]):
            self.no_tree_anywhere(thing)

    def test_papers_that_are_none(self):
        for paper in ODD_THINGS + [0, [0], [None], [[0, 1]], [(0,)], [(0, 1, 1)], [(-1, 1)], [(6, 1)], [(0, 0)],
                                   [(0, -1)], [(0, 10 * FAR + 1)], [(True, 1)], [(0, True)], [(1, 1), (1, 1)],
                                   [(2, 1), (1, 1)], [(SIXTY, 1)], ((0, 1),), [("0", 1)]]:
            self.no_tree_anywhere(("prices", paper))
        self.claims(10 * FAR, RING, 1, ("prices", [(5, 10 * FAR)]))

    def test_crowds_that_are_none(self):
        for moment in ODD_THINGS + [0, 5, 6, -1, SIXTY, [], [5]]:
            self.no_tree_anywhere(("crowd", moment))
        inside = ("split", 0, [("split", 2, [NOTHING, NOTHING]), NOTHING])
        # a and c in: two at 5, one at 4, 0 and 1, none at 2 and 3.
        for moment in ODD_THINGS + [0, 1, 2, 3, 4, 6, -1, 11, SIXTY, [5], "5"]:
            self.no_tree([0, 0], RING, 1, with_at(inside, [0, 0], ("crowd", moment)))
        self.claims(65, RING, 1, with_at(inside, [0, 0], ("crowd", 5)))
        for moment in range(6):
            self.no_tree([0, 1], RING, 1, with_at(inside, [0, 1], ("crowd", moment)))
            self.no_tree([1], RING, 0, with_at(inside, [1], ("crowd", moment)))

    def test_true_as_a_crowded_moment(self):
        # Two are over the moment 1, and over 0: True and False are neither.
        ring = (2, [("a", 0, 2, 1), ("b", 0, 2, 1)])
        for moment, right in ((0, True), (1, True), (2, False), (True, False), (False, False)):
            tree = ("split", 0, [("split", 1, [("crowd", moment), NOTHING]), NOTHING])
            if right:
                self.claims(1, ring, 1, tree)
            else:
                self.no_tree([0, 0], ring, 1, tree)

    def test_splits_that_are_none(self):
        two = [NOTHING, NOTHING]
        for i in ODD_THINGS + [4, 5, -1, -4, 24, SIXTY, [], [0], (0,), "0"]:
            self.no_tree_anywhere(("split", i, two))
        for i in (1, 3):
            # These two are in or out beneath.
            for way in ([0, 0], [0, 1], [1, 0], [1, 1]):
                tree = ("split", 3, [("split", 1, list(two)), ("split", 1, list(two))])
                self.no_tree(way, RING, 1, with_at(tree, way, ("split", i, two)))
        self.no_tree([0], RING, 1, ("split", 0, [("split", 0, two), NOTHING]))
        self.no_tree([1], RING, 1, ("split", 0, [NOTHING, ("split", 0, two)]))
        self.claims(75, RING, 1, ("split", 0, [("split", 2, two), ("split", 3, two)]))
        self.no_tree([], (6, []), 1, ("split", 0, two))

    def test_trees_that_are_none(self):
        for trees in ODD_THINGS + [0, [], [NOTHING], [NOTHING] * 3, (NOTHING, NOTHING), {0: NOTHING, 1: NOTHING},
                                   NOTHING, ("prices", "crowd")]:
            self.no_tree_anywhere(("split", 0, trees))

    def test_a_split_is_looked_at_ahead_of_its_trees(self):
        self.no_tree([], RING, 1, ("split", 4, [None, None]))
        self.no_tree([], RING, 1, ("split", True, [None, None]))
        self.no_tree([], RING, 1, ("split", 0, [None]))
        self.no_tree([], RING, 1, ("split", 0, [None, NOTHING, NOTHING]))

    def test_the_first_of_several(self):
        bad = ("prices", None)
        self.no_tree([0], RING, 1, ("split", 0, [bad, bad]))
        self.no_tree([1], RING, 1, ("split", 0, [NOTHING, bad]))
        self.no_tree([0, 1], RING, 1, ("split", 0, [("split", 1, [NOTHING, bad]), bad]))
        self.no_tree([0, 1, 0], RING, 1,
                     ("split", 0, [("split", 1, [NOTHING, ("split", 2, [bad, bad])]), ("split", 0, [bad, bad])]))
        self.no_tree([0], RING, 1, ("split", 0, [("split", 0, [bad, bad]), bad]))
        self.no_tree([1, 1], RING, 1, ("split", 0, [("split", 1, [NOTHING, NOTHING]), ("split", 1, [NOTHING, 7])]))

    def test_each_tuple_otherwise(self):
        tree = ("split", 2, [("split", 0, [("crowd", 5), ("prices", [(0, 3), (5, 4)])]), ("prices", [(2, 7)])])
        for changed in otherwise(tree):
            kind, expected = ring_tree_by_hand(RING, 1, changed)
            if kind == "claims":
                self.claims(expected, RING, 1, changed)
            else:
                self.no_tree(expected, RING, 1, changed)

    def test_drawn_faults_against_those_by_hand(self):
        draw = random.Random(153)
        faults = 0
        for _ in range(250):
            ring = drawn_ring(draw)
            benches = draw.choice([0, 1, 2])
            tree = drawn_ring_tree(draw, ring, benches)
            for _ in range(draw.randint(1, 3)):
                thing = draw.choice([NOTHING, ("crowd", 0), ("crowd", 1), ("split", 0, [NOTHING, NOTHING]), ("x",)])
                tree = with_at(tree, draw.choice(ways_of(tree)), thing)
            kind, expected = ring_tree_by_hand(ring, benches, tree)
            faults += kind == "way"
            if kind == "claims":
                self.claims(expected, ring, benches, tree)
            else:
                self.no_tree(expected, ring, benches, tree)
        self.assertGreater(faults, 50)

    def test_the_way_is_a_list_of_the_askers_own(self):
        tree = ("split", 0, [("split", 1, [NOTHING, None]), NOTHING])
        ways = [self.refused(NoTree, tree_claim, RING, 1, tree).way for _ in range(2)]
        ways[0].append(7)
        self.assert_alike(ways[1], [0, 1])
        self.assert_alike(self.refused(NoTree, tree_claim, RING, 1, tree).way, [0, 1])

    def test_it_is_a_value_error(self):
        self.assertRaises(ValueError, tree_claim, RING, 1, None)


class Counts(TreeCase):
    """Of a ring a tree has splits and one leaf more: 499 tuples, or 501."""

    def test_499_and_501(self):
        right, beyond = grown_tree(249), grown_tree(250)
        self.assertEqual((tuples_in_tree(right), tuples_in_tree(beyond)), (499, 501))
        self.claims(sum(range(24)), WIDE, 1, right)
        self.no_tree(ways_of(beyond)[500], WIDE, 1, beyond)

    def test_the_first_beyond(self):
        for splits in (250, 251, 260, 400, 511):
            tree = grown_tree(splits)
            self.no_tree(ways_of(tree)[500], WIDE, 1, tree)

    def test_a_fault_ahead_of_the_first_beyond(self):
        tree = grown_tree(300)
        ways = ways_of(tree)
        leaves = [number for number, way in enumerate(ways)
                  if number + 1 == len(ways) or ways[number + 1][:len(way)] != way]
        for number in [leaf for leaf in leaves if leaf > 480]:
            self.no_tree(ways[min(number, 500)], WIDE, 1, with_at(tree, ways[number], None))

    def test_faults_at_the_five_hundredth_and_behind(self):
        tree = grown_tree(250)
        ways = ways_of(tree)
        self.no_tree(ways[499], WIDE, 1, with_at(tree, ways[499], None))
        self.no_tree(ways[500], WIDE, 1, with_at(tree, ways[500], None))
        self.no_tree(ways[500], WIDE, 1, with_at(tree, ways[500], ("split", 23, [NOTHING, NOTHING])))
        # With a fault in it, it is walked no farther.
        self.no_tree(ways[3], WIDE, 1, with_at(tree, ways[3], None))

    def test_one_list_of_trees_that_stands_several_times(self):
        def stacked(depth):
            trees = [NOTHING, NOTHING]
            for i in range(depth - 1):
                trees = [("split", i, trees), ("split", i, trees)]
            return ("split", depth - 1, trees)

        self.assertEqual(tree_claim(WIDE, 1, stacked(7)), sum(range(24)))
        self.assertEqual(tuples_in_tree(stacked(8)), 511)
        for depth in (8, 9, 20, 24):
            with self.assertRaises(NoTree) as caught:
                tree_claim(WIDE, 1, stacked(depth))
            self.assert_alike(caught.exception.way, self.way_of_the_501st(depth))

    def way_of_the_501st(self, depth):
        """In a tree whose ways are all of this depth, told by counting tuples."""
        way, left, size = [], 501, 2 ** (depth + 1) - 1
        while left > 1:
            left, size = left - 1, (size - 1) // 2
            way.append(0 if left <= size else 1)
            left -= size * way[-1]
        return way

    def test_one_tuple_that_stands_several_times(self):
        leaf = ("prices", [(0, 3)])
        tree = ("split", 1, [leaf, leaf])
        self.assertEqual(tree_claim(WIDE, 1, ("split", 2, [tree, tree])),
                         ring_tree_by_hand(WIDE, 1, ("split", 2, [tree, tree]))[1])
        both = ("split", 1, [tree, tree])
        with self.assertRaises(NoTree) as caught:
            tree_claim(WIDE, 1, both)
        self.assert_alike(caught.exception.way, [0])

    def test_a_tree_that_holds_itself(self):
        for place in (0, 1):
            trees = [NOTHING, NOTHING]
            tree = ("split", 2, trees)
            trees[place] = tree
            for _ in range(2):
                with self.assertRaises(NoTree) as caught:
                    tree_claim(RING, 1, tree)
                self.assert_alike(caught.exception.way, [place])
        trees = [NOTHING, NOTHING]
        trees[1] = ("split", 0, [NOTHING, ("split", 1, [("split", 2, trees), NOTHING])])
        with self.assertRaises(NoTree) as caught:
            tree_claim(RING, 1, ("split", 3, trees))
        self.assert_alike(caught.exception.way, [1, 1, 0, 1])

    def test_lists_that_hold_themselves(self):
        paper = []
        paper.append(paper)
        for thing in (paper, ("prices", paper), ("split", 0, paper), ("split", paper, paper), ("crowd", paper)):
            with self.assertRaises(NoTree) as caught:
                tree_claim(RING, 1, thing)
            self.assert_alike(caught.exception.way, [])
        paper.append(paper)
        with self.assertRaises(NoTree) as caught:
            tree_claim(RING, 1, ("split", 0, paper))
        self.assert_alike(caught.exception.way, [0])

    def test_as_deep_as_there_are_stretches(self):
        tree = NOTHING
        for i in range(24):
            tree = ("split", i, [NOTHING, tree])
        self.claims(sum(range(24)), WIDE, 1, tree)
        self.no_tree([1] * 24, WIDE, 1, with_at(tree, [1] * 24, ("split", 5, [NOTHING, NOTHING])))
        self.no_tree([1] * 24, WIDE, 1, with_at(tree, [1] * 24, ("crowd", 0)))

    def test_full_trees(self):
        for depth in range(8):
            self.claims(sum(range(24)), WIDE, 24, full_tree(depth))


if __name__ == "__main__":
    unittest.main()
