"""Loads and crowds, by points 2.1 and 2.2."""

import unittest

from benchworth.loads import crowd_of, load_at, loads_of
from tests.common import FAR, NAMES, SIXTY, Told, drawn_books, every_some, load_by_hand, near_moments, piled_book

BOOK = [("a", 0, 5, 10), ("b", 5, 9, 20), ("c", 4, 6, 40), ("d", 0, 9, 0), ("e", 20, 30, 80)]


class LoadsAtMoments(Told, unittest.TestCase):
    def test_at_and_around_begins_and_ends(self):
        some = [0, 2, 4]
        for moment, load in ((-1, 0), (0, 1), (3, 1), (4, 2), (5, 1), (6, 0), (19, 0), (20, 1), (29, 1), (30, 0)):
            with self.subTest(moment):
                self.assert_told(load, load_at, BOOK, some, moment)

    def test_only_some_are_counted(self):
        self.assert_told(3, load_at, BOOK, [0, 1, 2, 3, 4], 4)
        self.assert_told(2, load_at, BOOK, [0, 1, 3], 4)
        self.assert_told(1, load_at, BOOK, [3], 4)
        self.assert_told(0, load_at, BOOK, [1, 4], 4)

    def test_of_none(self):
        for moment in (-FAR, 0, 4, SIXTY):
            self.assert_told(0, load_at, BOOK, [], moment)
            self.assert_told(0, load_at, [], [], moment)

    def test_far_out(self):
        every = list(range(24))
        for moment, load in ((-SIXTY, 0), (-FAR - 1, 0), (-FAR, 1), (-FAR + 1, 2), (0, 24), (FAR - 1, 1),
                             (FAR, 0), (SIXTY, 0)):
            with self.subTest(moment):
                self.assert_told(load, load_at, piled_book(), every, moment)

    def test_a_changed_book_is_another_one(self):
        book, some = [("a", 0, 5, 1), ("b", 3, 9, 1)], [0, 1]
        self.assert_alike(load_at(book, some, 4), 2)
        book[0] = ("a", 0, 4, 1)
        self.assert_alike(load_at(book, some, 4), 1)
        some.pop()
        self.assert_alike(load_at(book, some, 4), 0)


class Steps(Told, unittest.TestCase):
    def test_of_none(self):
        self.assert_told([], loads_of, [], [])
        self.assert_told([], loads_of, BOOK, [])

    def test_of_one(self):
        self.assert_told([(5, 1), (9, 0)], loads_of, BOOK, [1])

    def test_no_step_where_one_ends_and_another_begins(self):
        self.assert_told([(0, 1), (9, 0)], loads_of, BOOK, [0, 1])
        book = [("a", 0, 5, 1), ("b", 0, 5, 1), ("c", 5, 9, 1), ("d", 5, 7, 1), ("e", 7, 8, 1)]
        self.assert_told([(0, 2), (8, 1), (9, 0)], loads_of, book, [0, 1, 2, 3, 4])

    def test_a_step_where_more_end_than_begin(self):
        book = [("a", 0, 5, 1), ("b", 0, 5, 1), ("c", 5, 9, 1)]
        self.assert_told([(0, 2), (5, 1), (9, 0)], loads_of, book, [0, 1, 2])

    def test_a_step_where_more_begin_than_end(self):
        book = [("c", 5, 9, 1), ("b", 5, 9, 1), ("a", 0, 5, 1)]
        self.assert_told([(0, 1), (5, 2), (9, 0)], loads_of, book, [0, 1, 2])

    def test_several_that_begin_and_end_alike(self):
        book = [("a", 2, 4, 1), ("b", 2, 4, 1), ("c", 2, 4, 1)]
        self.assert_told([(2, 3), (4, 0)], loads_of, book, [0, 1, 2])

    def test_a_load_of_0_between(self):
        self.assert_told([(0, 1), (5, 0), (20, 1), (30, 0)], loads_of, BOOK, [0, 4])

    def test_of_all(self):
        self.assert_told([(0, 2), (4, 3), (6, 2), (9, 0), (20, 1), (30, 0)], loads_of, BOOK, [0, 1, 2, 3, 4])

    def test_far_out(self):
        self.assert_told([(-FAR, 1), (FAR, 0)], loads_of, [("a", -FAR, 0, 1), ("b", 0, FAR, 1)], [0, 1])
        expected = [(-FAR + i, i + 1) for i in range(24)] + [(FAR - 23 + i, 23 - i) for i in range(24)]
        self.assert_told(expected, loads_of, piled_book(), list(range(24)))

    def test_against_all_moments_by_hand(self):
        for book in drawn_books(31, 40, most=5):
            for some in every_some(book):
                expected = []
                for moment in near_moments(book):
                    load = load_by_hand(book, some, moment)
                    self.assert_alike(load_at(book, some, moment), load)
                    if load != load_by_hand(book, some, moment - 1):
                        expected.append((moment, load))
                self.assert_told(expected, loads_of, book, some)

    def test_rising_and_the_last_load_is_0(self):
        for book in drawn_books(32, 40, most=6):
            steps = loads_of(book, list(range(len(book))))
            self.assertEqual(steps, sorted(steps))
            self.assertEqual(len(steps), len({moment for moment, load in steps}))
            self.assertEqual(steps[-1][1] if steps else 0, 0)


class Crowds(Told, unittest.TestCase):
    def test_of_none(self):
        self.assert_told((0, None, []), crowd_of, [], [])
        self.assert_told((0, None, []), crowd_of, BOOK, [])

    def test_of_one(self):
        self.assert_told((1, 20, [4]), crowd_of, BOOK, [4])

    def test_of_some(self):
        self.assert_told((3, 4, [0, 2, 3]), crowd_of, BOOK, [0, 1, 2, 3, 4])
        self.assert_told((2, 4, [0, 2]), crowd_of, BOOK, [0, 1, 2])
        self.assert_told((2, 5, [1, 2]), crowd_of, BOOK, [1, 2])
        self.assert_told((1, 0, [0]), crowd_of, BOOK, [0, 1, 4])

    def test_the_first_of_several_moments(self):
        book = [("a", 10, 20, 1), ("b", 10, 20, 1), ("c", 0, 5, 1), ("d", 3, 5, 1), ("e", 12, 13, 0)]
        self.assert_told((2, 3, [2, 3]), crowd_of, book, [0, 1, 2, 3])
        self.assert_told((3, 12, [0, 1, 4]), crowd_of, book, [0, 1, 2, 3, 4])

    def test_the_first_moment_of_a_load_that_stays(self):
        book = [("a", 0, 5, 1), ("b", 5, 9, 1), ("c", -3, 9, 1)]
        self.assert_told((2, 0, [0, 2]), crowd_of, book, [0, 1, 2])

    def test_at_the_moment_0_and_below(self):
        self.assert_told((1, 0, [0]), crowd_of, [("a", 0, 1, 1)], [0])
        self.assert_told((1, -5, [0]), crowd_of, [("a", -5, 1, 1)], [0])

    def test_far_out(self):
        self.assert_told((24, -FAR + 23, list(range(24))), crowd_of, piled_book(), list(range(24)))
        self.assert_told((1, FAR - 1, [0]), crowd_of, [("a", FAR - 1, FAR, 1)], [0])

    def test_against_all_moments_by_hand(self):
        for book in drawn_books(33, 40, most=5):
            for some in every_some(book)[1:]:
                loads = [(load_by_hand(book, some, moment), moment) for moment in near_moments(book)]
                greatest = max(load for load, moment in loads)
                first = min(moment for load, moment in loads if load == greatest)
                those = [i for i in some if book[i][1] <= first < book[i][2]]
                self.assert_told((greatest, first, those), crowd_of, book, some)

    def test_told_lists_are_the_askers_own(self):
        book, some = [(name, 0, 1, 1) for name in NAMES[:3]], [0, 1, 2]
        told = crowd_of(book, some)
        told[2].append(7)
        self.assert_alike(some, [0, 1, 2])
        self.assert_alike(crowd_of(book, some), (3, 0, [0, 1, 2]))
        nothing = crowd_of(book, [])
        nothing[2].append(7)
        self.assert_alike(crowd_of(book, []), (0, None, []))
        steps = loads_of(book, [])
        steps.append(7)
        self.assert_alike(loads_of(book, []), [])


if __name__ == "__main__":
    unittest.main()
