"""The refusals, by the interface's section benchworth/errors.py."""

import unittest

from benchworth.errors import (BenchError, Crowded, NoBenches, NoBook, NoRing, NoRow, NoStretch, NoText, NoTree,
                               NoTurn, NoUndo, TooMany, Unknown)

WITH_FIELD = [(NoBook, "number"), (Crowded, "moment"), (NoRing, "number"), (NoTree, "way"), (NoText, "row")]
OF_A_TEXT = [TooMany, NoBenches, NoStretch, Unknown, NoUndo, NoTurn, NoRow]
ALL = [kind for kind, field in WITH_FIELD] + OF_A_TEXT


class Classes(unittest.TestCase):
    def test_there_are_twelve_by_their_names(self):
        self.assertEqual(len(set(ALL)), 12)
        self.assertEqual([kind.__name__ for kind in ALL],
                         "NoBook Crowded NoRing NoTree NoText TooMany NoBenches NoStretch Unknown NoUndo NoTurn "
                         "NoRow".split())

    def test_any_refusal_is_a_value_error(self):
        self.assertEqual(BenchError.__bases__, (ValueError,))

    def test_each_stands_straight_under_bench_error(self):
        for kind in ALL:
            with self.subTest(kind.__name__):
                self.assertEqual(kind.__bases__, (BenchError,))

    def test_none_stands_under_another_one(self):
        for kind in ALL:
            for other in ALL:
                with self.subTest(f"{kind.__name__} {other.__name__}"):
                    self.assertEqual(issubclass(kind, other), kind == other)


class Fields(unittest.TestCase):
    def test_numbers_moments_and_rows(self):
        for kind, field in WITH_FIELD:
            if kind == NoTree:
                continue
            for value in (0, 1, 24, -10 ** 12, None):
                with self.subTest(f"{kind.__name__} {value}"):
                    self.assertEqual(getattr(kind(value), field), value)

    def test_the_way_of_a_tree(self):
        for way in ([], [0], [1, 0, 1]):
            with self.subTest(way):
                refusal = NoTree(way)
                self.assertEqual(refusal.way, way)
                self.assertIs(type(refusal.way), list)

    def test_the_others_are_made_of_a_text(self):
        for kind in OF_A_TEXT + [BenchError]:
            with self.subTest(kind.__name__):
                self.assertIs(type(kind("so it is")), kind)

    def test_each_is_caught_as_any_refusal(self):
        made = [kind(3) for kind, field in WITH_FIELD if kind != NoTree] + [NoTree([0])]
        made += [kind("no") for kind in OF_A_TEXT]
        for refusal in made:
            with self.subTest(type(refusal).__name__), self.assertRaises(BenchError) as caught:
                raise refusal
            self.assertIs(caught.exception, refusal)


if __name__ == "__main__":
    unittest.main()
