"""Trees for wished benches, by point 10.3 and 0.4 (g)."""

import random
import unittest

from benchworth.errors import NoTree
from benchworth.wishtrees import wish_claim
from tests.common import (FAR, NAMES, ODD_THINGS, SIXTY, Told, drawn_books, drawn_wish_tree, drawn_wishes,
                          every_seating, otherwise, seating_worth_by_hand, tuples_in_tree, ways_of,
                          wish_tree_by_hand, with_at)

# a and b meet, b and c meet, a's end is c's begin; d is alone and has no bench.
BOOK = [("a", 0, 5, 10), ("b", 3, 8, 20), ("c", 5, 9, 30), ("d", 20, 21, 40)]
WISHES = (3, [[0, 1, 2], [1], [0, 1], []])
WIDE = [(NAMES[i], i, i + 1, 1) for i in range(24)]

NOTHING = ("prices", [])


def nothings(many):
    return [("prices", []) for _ in range(many)]


def put_so(wishes, done, thing):
    """A tree in which those of done are put so, one behind the other, and then the thing stands; and its way."""
    if not done:
        return thing, []
    (i, bench), *behind = done
    ways = wishes[1][i] + [None]
    tree, way = put_so(wishes, behind, thing)
    trees = nothings(len(ways))
    trees[ways.index(bench)] = tree
    return ("sit", i, trees), [ways.index(bench)] + way


def wide_tree(lists, tuples, first=0):
    """A tree of at most so many tuples, as many as go: each sit has as many trees as there are ways."""
    many = len(lists[first]) + 1 if first < len(lists) else 0
    if not many or tuples < many + 1:
        return ("prices", [])
    left, trees = tuples - 1, []
    for number in range(many):
        # Those behind need one each.
        tree = wide_tree(lists, left - (many - 1 - number), first + 1)
        left -= tuples_in_tree(tree)
        trees.append(tree)
    return ("sit", first, trees)


class TreeCase(Told, unittest.TestCase):
    def claims(self, expected, book, wishes, tree):
        with self.subTest((wishes, tree)):
            self.assert_told(expected, wish_claim, book, wishes, tree)

    def no_tree(self, way, book, wishes, thing):
        with self.subTest((wishes, thing)):
            refusal = self.refused(NoTree, wish_claim, book, wishes, thing)
            self.assert_alike(refusal.way, way)

    def no_tree_anywhere(self, thing, book=BOOK, wishes=WISHES):
        """That the thing can't stand at the root, nor beneath where one is put or left out."""
        self.no_tree([], book, wishes, thing)
        for done in ([(2, 0)], [(2, 1)], [(2, None)], [(3, None)], [(2, 1), (3, None)], [(1, 1), (2, 0)]):
            tree, way = put_so(wishes, done, thing)
            self.no_tree(way, book, wishes, tree)


class Claims(TreeCase):
    def test_prices_at_the_root(self):
        self.claims(60, BOOK, WISHES, NOTHING)
        # The least of its tolls, and d has no bench.
        self.claims(6 + 10 + 14 + 30, BOOK, WISHES, ("prices", [(1, 4, 6)]))
        self.claims(5 + 60, BOOK, WISHES, ("prices", [(3, 4, 5)]))
        self.claims(0, [], (1, []), NOTHING)
        self.claims(9, [], (1, []), ("prices", [(0, 4, 5), (3, 0, 4)]))

    def test_worths_of_those_put(self):
        # a on 2 and b on 1: then c can sit on 0 only.
        tree, way = put_so(WISHES, [(0, 2), (1, 1)], NOTHING)
        self.assert_alike(wish_tree_by_hand(BOOK, WISHES, tree), ("claims", 60))
        self.claims(60, BOOK, WISHES, tree)

    def test_prices_under_one_that_is_put(self):
        book, wishes = [("a", 0, 5, 10)], (2, [[0]])
        # a put on 0: its worth, and the prices but those under it on that bench.
        for paper, expected in (([(0, 4, 100)], 10), ([(0, 0, 100)], 10), ([(0, 5, 100)], 110), ([(0, -1, 100)], 110),
                                ([(1, 4, 100)], 110), ([(3, 4, 100)], 110),
                                ([(0, -1, 1), (0, 0, 2), (0, 4, 4), (0, 5, 8), (1, 0, 16)], 10 + 1 + 8 + 16)):
            self.claims(expected, book, wishes, ("sit", 0, [("prices", paper), NOTHING]))
        # Left out: all prices, no worth, no rest.
        for paper, expected in (([(0, 4, 100)], 100), ([(0, 4, 11)], 11), ([(1, 4, 12)], 12)):
            self.claims(expected, book, wishes, ("sit", 0, [NOTHING, ("prices", paper)]))

    def test_rests_of_those_that_are_free(self):
        book, wishes = [("a", 0, 5, 10), ("b", 3, 8, 200)], (2, [[0], [0, 1]])
        # a on 0: b has bench 1 only, whatever is priced on 0.
        self.claims(210, book, wishes, ("sit", 0, [NOTHING, ("prices", [(1, 5, 1)])]))
        self.claims(10 + 7 + 193, book, wishes, ("sit", 0, [("prices", [(1, 7, 7)]), NOTHING]))
        self.claims(10 + 7 + 300, book, wishes, ("sit", 0, [("prices", [(0, 7, 7), (1, 7, 300)]), NOTHING]))
        self.claims(10 + 7 + 200, book, wishes, ("sit", 0, [("prices", [(0, 7, 7)]), NOTHING]))

    def test_no_rest_where_no_bench_is_free(self):
        book, wishes = [("a", 0, 5, 10), ("b", 3, 8, 20)], (1, [[0], [0]])
        # a on 0: b meets it there. a left out: b has its rest.
        self.claims(20, book, wishes, ("sit", 0, [NOTHING, NOTHING]))
        self.claims(20, book, wishes, ("sit", 0, [("prices", [(0, 9, 2)]), ("prices", [(0, 7, 20)])]))
        # One whose begin is the end of the one put there may sit.
        book = [("a", 0, 3, 10), ("b", 3, 8, 20)]
        self.claims(30, book, wishes, ("sit", 0, [NOTHING, NOTHING]))

    def test_left_out_ones_have_no_rest(self):
        book, wishes = [("a", 0, 5, 10), ("b", 3, 8, 20)], (2, [[0], [1]])
        self.claims(30, book, wishes, ("sit", 0, [NOTHING, NOTHING]))
        both = ("sit", 1, [("sit", 0, [NOTHING, NOTHING]), NOTHING])
        self.claims(30, book, wishes, both)

    def test_a_sit_without_benches_has_one_tree(self):
        self.claims(60, BOOK, WISHES, ("sit", 3, [NOTHING]))
        self.claims(0, [("a", 0, 1, 5)], (1, [[]]), ("sit", 0, [NOTHING]))
        self.claims(0, [("a", 0, 1, 5)], (1, [[]]), NOTHING)

    def test_prices_where_two_that_meet_are_put(self):
        # That may be written, too: a and b on bench 1, both worths claimed, the prices under either left away.
        tree, way = put_so(WISHES, [(0, 1), (1, 1)], ("prices", [(1, 2, 7), (1, 6, 7), (1, 9, 7)]))
        self.assert_alike(wish_tree_by_hand(BOOK, WISHES, tree), ("claims", 67))
        self.claims(67, BOOK, WISHES, tree)

    def test_meets_claim_nothing(self):
        book, wishes = [("a", 0, 5, 10), ("b", 3, 8, 20)], (1, [[0], [0]])
        self.claims(20, book, wishes, ("sit", 0, [("sit", 1, [("meet", 0, 1), NOTHING]), NOTHING]))
        self.claims(20, book, wishes, ("sit", 1, [("sit", 0, [("meet", 0, 1), NOTHING]), NOTHING]))

    def test_trees_are_in_the_order_of_the_benches(self):
        book, wishes = [("a", 0, 5, 10)], (4, [[1, 3]])
        paper = [(1, 0, 4), (3, 0, 50)]
        self.claims(60, book, wishes, ("sit", 0, [("prices", paper), NOTHING, NOTHING]))
        self.claims(14, book, wishes, ("sit", 0, [NOTHING, ("prices", paper), NOTHING]))
        self.claims(54, book, wishes, ("sit", 0, [NOTHING, NOTHING, ("prices", paper)]))

    def test_the_greatest(self):
        book = [(name, -FAR, FAR, FAR) for name in NAMES[:24]]
        wishes = (4, [[0, 1, 2, 3] for _ in book])
        paper = [(bench, moment, 10 * FAR) for bench in range(4) for moment in range(48)]
        self.claims(1920 * FAR, book, wishes, ("prices", paper))
        # On each bench that one is put on the prices are away, and the others have no bench that is free there.
        self.claims(1920 * FAR, book, wishes, ("sit", 7, [("prices", paper) for _ in range(5)]))
        self.claims(1440 * FAR + FAR, book, wishes, ("sit", 7, [("prices", paper)] + nothings(4)))

    def test_drawn_against_those_by_hand(self):
        draw = random.Random(181)
        for book in drawn_books(182, 200, most=5):
            wishes = drawn_wishes(draw, book, most=3)
            tree = drawn_wish_tree(draw, book, wishes)
            kind, expected = wish_tree_by_hand(book, wishes, tree)
            self.assertEqual(kind, "claims")
            self.claims(expected, book, wishes, tree)

    def test_no_seating_is_worth_more(self):
        draw = random.Random(183)
        for book in drawn_books(184, 100, most=5):
            wishes = drawn_wishes(draw, book, most=3)
            most = max(seating_worth_by_hand(book, seating) for seating in every_seating(book, wishes))
            for _ in range(4):
                self.assertGreaterEqual(wish_claim(book, wishes, drawn_wish_tree(draw, book, wishes)), most)


class Refusals(TreeCase):
    def test_things_of_any_kind(self):
        for thing in ODD_THINGS + [0, 1, [], [NOTHING], ["prices", []], "prices", ("prices",), (NOTHING,),
                                   ([], "prices"), {"prices": []}]:
            self.no_tree_anywhere(thing)

    def test_words_that_are_none(self):
        for word in ("price", "Prices", "prices ", "", "split", "crowd", "leaf", None, True, 0, b"sit", ["sit"]):
            self.no_tree_anywhere((word, []))
            self.no_tree_anywhere((word, 0, nothings(4)))
            self.no_tree_anywhere((word, 0, 1))

    def test_tuples_too_short_or_too_long(self):
        for thing in (("prices",), ("prices", [], []), ("meet",), ("meet", 0), ("meet", (0, 1)), ("meet", 0, 1, 2),
                      ("sit",), ("sit", 0), ("sit", nothings(4)), ("sit", 0, nothings(4), None), (),
                      ("sit", 0, *nothings(4)), ("prices", 0, nothings(4)), ("sit", [])):
            self.no_tree_anywhere(thing)

    def test_a_list_for_a_tuple(self):
        for thing in (["prices", []], ["meet", 0, 1], ["sit", 0, nothings(4)]):
            self.no_tree_anywhere(thing)

    def test_papers_that_are_none(self):
        for paper in ODD_THINGS + [0, [0], [None], [(0, 1)], [[0, 1, 1]], [(4, 0, 1)], [(-1, 0, 1)], [(0, FAR, 1)],
                                   [(0, 0, 0)], [(0, 0, 10 * FAR + 1)], [(True, 0, 1)], [(0, True, 1)], [(0, 0, True)],
                                   [(0, 0, 1), (0, 0, 1)], [(1, 0, 1), (0, 5, 1)], ((0, 0, 1),),
                                   [(0, moment, 1) for moment in range(193)]]:
            self.no_tree_anywhere(("prices", paper))
        self.claims(192 + 60, BOOK, WISHES, ("prices", [(3, moment, 1) for moment in range(192)]))

    def meet_beneath(self, right, done, i, k):
        tree, way = put_so(WISHES, done, ("meet", i, k))
        if right:
            self.claims(wish_tree_by_hand(BOOK, WISHES, tree)[1], BOOK, WISHES, tree)
        else:
            self.no_tree(way, BOOK, WISHES, tree)

    def test_meets(self):
        for done in ([(0, 1), (1, 1)], [(1, 1), (0, 1)], [(1, 1), (2, 0), (0, 1)], [(0, 1), (3, None), (1, 1)]):
            self.meet_beneath(True, done, 0, 1)
        self.meet_beneath(True, [(2, 1), (1, 1)], 1, 2)

    def test_meets_in_the_wrong_order(self):
        for i, k in ((1, 0), (0, 0), (1, 1), (-1, 0), (0, -3)):
            self.meet_beneath(False, [(0, 1), (1, 1)], i, k)
            self.meet_beneath(False, [(1, 1), (0, 1)], i, k)

    def test_meets_of_two_that_do_not_meet(self):
        # a's end is c's begin.
        for bench in (0, 1):
            self.meet_beneath(False, [(0, bench), (2, bench)], 0, 2)
            self.meet_beneath(False, [(2, bench), (0, bench)], 0, 2)

    def test_meets_on_unlike_benches(self):
        for bench in (0, 2):
            self.meet_beneath(False, [(0, bench), (1, 1)], 0, 1)
        self.meet_beneath(False, [(1, 1), (2, 0)], 1, 2)

    def test_meets_of_those_that_are_not_put(self):
        for done in ([], [(0, 1)], [(1, 1)], [(0, None), (1, 1)], [(0, 1), (1, None)], [(0, None), (1, None)],
                     [(2, 1)], [(3, None)]):
            self.meet_beneath(False, done, 0, 1)
            self.meet_beneath(False, done, 2, 3)

    def test_meets_of_no_numbers(self):
        for thing in ODD_THINGS + [-1, 4, 24, SIXTY, [0], "0"]:
            self.meet_beneath(False, [(0, 1), (1, 1)], thing, 1)
            self.meet_beneath(False, [(0, 1), (1, 1)], 0, thing)

    def test_sits_of_no_stretch(self):
        for i in ODD_THINGS + [4, 5, -1, -4, 24, SIXTY, [], [0], (0,), "0"]:
            for many in (1, 2, 4):
                self.no_tree_anywhere(("sit", i, nothings(many)))
        self.no_tree([], [], (1, []), ("sit", 0, nothings(1)))

    def test_sits_of_those_that_are_put_or_left_out(self):
        for i, wished in enumerate(WISHES[1]):
            for bench in wished + [None]:
                tree, way = put_so(WISHES, [(i, bench)], ("sit", i, nothings(len(wished) + 1)))
                self.no_tree(way, BOOK, WISHES, tree)
                other = (i + 1) % 4
                tree, way = put_so(WISHES, [(i, bench), (other, None)], ("sit", i, nothings(len(wished) + 1)))
                self.no_tree(way, BOOK, WISHES, tree)

    def test_numbers_of_trees(self):
        book = BOOK[:1]
        for benches in range(5):
            wishes = (4, [list(range(4 - benches, 4))])
            for many in range(8):
                tree = ("sit", 0, nothings(many))
                if many == benches + 1:
                    self.claims(10 if benches else 0, book, wishes, tree)
                else:
                    self.no_tree([], book, wishes, tree)

    def test_trees_that_are_none(self):
        for trees in ODD_THINGS + [0, tuple(nothings(4)), {0: NOTHING}, NOTHING, "abcd", dict.fromkeys(range(4))]:
            self.no_tree_anywhere(("sit", 0, trees))

    def test_a_sit_is_looked_at_ahead_of_its_trees(self):
        self.no_tree([], BOOK, WISHES, ("sit", 0, [None, None, None]))
        self.no_tree([], BOOK, WISHES, ("sit", 4, [None]))
        self.no_tree([], BOOK, WISHES, ("sit", True, [None, None]))

    def test_the_first_of_several(self):
        bad = ("prices", None)
        for place in range(4):
            self.no_tree([place], BOOK, WISHES, ("sit", 0, nothings(place) + [bad] * (4 - place)))
        beneath = ("sit", 1, [NOTHING, bad])
        self.no_tree([2, 1], BOOK, WISHES, ("sit", 0, [NOTHING, NOTHING, beneath, bad]))
        self.no_tree([2], BOOK, WISHES, ("sit", 0, [NOTHING, NOTHING, ("sit", 0, [bad] * 4), bad]))
        self.no_tree([3, 0], BOOK, WISHES, ("sit", 0, nothings(3) + [("sit", 3, [bad])]))

    def test_each_tuple_otherwise(self):
        tree = ("sit", 1, [("sit", 0, [NOTHING, ("meet", 0, 1), ("prices", [(0, 6, 3), (1, 6, 4)]), NOTHING]),
                           ("sit", 3, [("prices", [(1, 4, 2)])])])
        for changed in otherwise(tree):
            kind, expected = wish_tree_by_hand(BOOK, WISHES, changed)
            if kind == "claims":
                self.claims(expected, BOOK, WISHES, changed)
            else:
                self.no_tree(expected, BOOK, WISHES, changed)

    def test_drawn_faults_against_those_by_hand(self):
        draw = random.Random(185)
        faults = 0
        for book in drawn_books(186, 200, most=4):
            wishes = drawn_wishes(draw, book, most=3)
            tree = drawn_wish_tree(draw, book, wishes)
            for _ in range(2):
                thing = draw.choice([("meet", 0, 1), ("meet", 1, 2), ("sit", 0, nothings(draw.randint(1, 4))), NOTHING])
                tree = with_at(tree, draw.choice(ways_of(tree)), thing)
            kind, expected = wish_tree_by_hand(book, wishes, tree)
            faults += kind == "way"
            if kind == "claims":
                self.claims(expected, book, wishes, tree)
            else:
                self.no_tree(expected, book, wishes, tree)
        self.assertGreater(faults, 40)

    def test_it_is_a_value_error(self):
        self.assertRaises(ValueError, wish_claim, BOOK, WISHES, None)


class Counts(TreeCase):
    def trees_of(self, many):
        """Trees of just so many tuples, with their wishes: all with one bench, with two, with four, by turns."""
        for benches in ([1], [2], [3], [4], [0, 1, 2, 3, 4], [4, 1], [0, 3]):
            lists = [list(range(benches[i % len(benches)])) for i in range(24)]
            tree = wide_tree(lists, many)
            if tuples_in_tree(tree) == many:
                yield (4, lists), tree

    def test_just_five_hundred(self):
        found = 0
        for wishes, tree in self.trees_of(500):
            found += 1
            self.claims(wish_tree_by_hand(WIDE, wishes, tree)[1], WIDE, wishes, tree)
        self.assertGreater(found, 0)

    def test_five_hundred_and_one_and_more(self):
        found = 0
        for many in (501, 502, 503, 600):
            for wishes, tree in self.trees_of(many):
                found += 1
                self.no_tree(ways_of(tree)[500], WIDE, wishes, tree)
        self.assertGreater(found, 4)

    def test_faults_around_the_five_hundredth(self):
        for wishes, tree in self.trees_of(501):
            ways = ways_of(tree)
            for number in (490, 498, 499, 500):
                self.no_tree(ways[number], WIDE, wishes, with_at(tree, ways[number], None))
        for wishes, tree in self.trees_of(503):
            ways = ways_of(tree)
            for number in (501, 502):
                if ways[500] != ways[number][:len(ways[500])]:
                    self.no_tree(ways[500], WIDE, wishes, with_at(tree, ways[number], None))

    def test_one_list_of_trees_that_stands_several_times(self):
        wishes = (4, [[0, 1, 2] for _ in WIDE])

        def stacked(depth):
            trees = [NOTHING] * 4
            for i in range(depth - 1):
                trees = [("sit", i, trees)] * 4
            return ("sit", depth - 1, trees)

        self.assertEqual(tuples_in_tree(stacked(4)), 341)
        self.assertEqual(wish_claim(WIDE, wishes, stacked(4)), 24)
        self.assertEqual(tuples_in_tree(stacked(5)), 1365)
        for depth in (5, 6):
            with self.assertRaises(NoTree) as caught:
                wish_claim(WIDE, wishes, stacked(depth))
            self.assert_alike(caught.exception.way, ways_of(stacked(depth))[500])
        for _ in range(2):
            with self.assertRaises(NoTree):
                wish_claim(WIDE, wishes, stacked(24))

    def test_a_tree_that_holds_itself(self):
        for place in range(4):
            trees = nothings(4)
            trees[place] = ("sit", 0, trees)
            with self.assertRaises(NoTree) as caught:
                wish_claim(BOOK, WISHES, ("sit", 0, trees))
            self.assert_alike(caught.exception.way, [place])
            trees[place] = ("sit", 3, [("sit", 1, [NOTHING, ("sit", 0, trees)])])
            with self.assertRaises(NoTree) as caught:
                wish_claim(BOOK, WISHES, ("sit", 0, trees))
            self.assert_alike(caught.exception.way, [place, 0, 1])
        paper = []
        paper.append(paper)
        for thing in (paper, ("prices", paper), ("sit", 0, paper), ("sit", paper, paper), ("meet", paper, paper)):
            with self.assertRaises(NoTree) as caught:
                wish_claim(BOOK, WISHES, thing)
            self.assert_alike(caught.exception.way, [])

    def test_as_deep_as_there_are_stretches(self):
        wishes = (1, [[] for _ in WIDE])
        tree = NOTHING
        for i in range(24):
            tree = ("sit", i, [tree])
        self.claims(0, WIDE, wishes, tree)
        self.no_tree([0] * 24, WIDE, wishes, with_at(tree, [0] * 24, ("sit", 7, [NOTHING])))

    def test_five_hundred_dear_papers_in_good_time(self):
        paper = [(bench, moment, 1) for bench in range(4) for moment in range(-20, 28)]
        wishes = (4, [[0, 1, 2, 3] for _ in WIDE])
        tree = wide_tree(wishes[1], 500)
        for way in [way for way in ways_of(tree)]:
            spot = tree
            for number in way:
                spot = spot[2][number]
            if spot[0] == "prices":
                spot[1].extend(paper)
        self.assertGreater(tuples_in_tree(tree), 490)
        self.assertEqual(wish_claim(WIDE, wishes, tree), wish_tree_by_hand(WIDE, wishes, tree)[1])


if __name__ == "__main__":
    unittest.main()
