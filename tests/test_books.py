"""Stretches and books, by points 1.2, 1.3 and 1.4."""

import unittest

from benchworth.books import is_over, is_stretch, lying_over, look_at_book, meet, moments_of
from benchworth.errors import NoBook
from tests.common import FAR, NAMES, ODD_THINGS, SIXTY, Told, drawn_books, near_moments, piled_book, whole_book


class Stretches(Told, unittest.TestCase):
    def right(self, *parts):
        with self.subTest(parts):
            self.assert_told(True, is_stretch, tuple(parts))

    def wrong(self, *parts):
        with self.subTest(parts):
            self.assert_told(False, is_stretch, tuple(parts))

    def test_ordinary_ones(self):
        self.right("a", 0, 1, 0)
        self.right("abcdefgh", -5, 5, 7)
        self.right("noon", 3, 400, 20)

    def test_bounds_of_begin(self):
        self.right("a", -FAR, 0, 1)
        self.wrong("a", -FAR - 1, 0, 1)
        self.right("a", FAR - 1, FAR, 1)
        self.wrong("a", FAR, FAR, 1)
        self.wrong("a", FAR, FAR + 1, 1)
        self.wrong("a", -SIXTY, 0, 1)

    def test_bounds_of_end(self):
        self.right("a", 0, FAR, 1)
        self.wrong("a", 0, FAR + 1, 1)
        self.right("a", -FAR, -FAR + 1, 1)
        self.wrong("a", -FAR, -FAR, 1)
        self.wrong("a", -FAR - 1, -FAR, 1)
        self.wrong("a", 0, SIXTY, 1)

    def test_bounds_of_worth(self):
        self.right("a", 0, 1, 0)
        self.wrong("a", 0, 1, -1)
        self.right("a", 0, 1, FAR)
        self.wrong("a", 0, 1, FAR + 1)
        self.wrong("a", 0, 1, SIXTY)

    def test_begin_and_end_alike_or_turned_about(self):
        for begin, end in ((0, 0), (5, 5), (1, 0), (5, 4), (FAR, -FAR), (0, -FAR)):
            self.wrong("a", begin, end, 1)

    def test_true_and_false_for_numbers(self):
        self.wrong("a", False, 5, 1)
        self.wrong("a", True, 5, 1)
        self.wrong("a", -5, False, 1)
        self.wrong("a", -5, True, 1)
        self.wrong("a", 0, 5, False)
        self.wrong("a", 0, 5, True)

    def test_other_things_in_each_place(self):
        for thing in [None, "0", "5", [], [1], (), (1,), {}, b"a"]:
            self.wrong(thing, 0, 5, 1)
            self.wrong("a", thing, 5, 1)
            self.wrong("a", 0, thing, 1)
            self.wrong("a", 0, 5, thing)
        for name in ("", "abcdefghi", "A", "a b", "a1", "a\n", 7, True):
            self.wrong(name, 0, 5, 1)

    def test_other_numbers_of_parts(self):
        self.wrong("a", 0, 5)
        self.wrong("a", 0, 5, 1, 1)
        self.wrong("a")
        self.wrong()

    def test_a_list_in_the_place_of_the_tuple(self):
        self.assert_told(False, is_stretch, ["a", 0, 5, 1])

    def test_other_things(self):
        for thing in ODD_THINGS + [0, 1, SIXTY, "abcd", [], [("a", 0, 5, 1)]]:
            with self.subTest(thing):
                self.assert_told(False, is_stretch, thing)


class Overs(Told, unittest.TestCase):
    def test_at_and_around_begin_and_end(self):
        stretch = ("a", 3, 7, 1)
        for moment, over in ((2, False), (3, True), (4, True), (6, True), (7, False), (8, False)):
            with self.subTest(moment):
                self.assert_told(over, is_over, stretch, moment)

    def test_of_one_moment(self):
        stretch = ("a", -1, 0, 0)
        for moment, over in ((-2, False), (-1, True), (0, False)):
            self.assert_told(over, is_over, stretch, moment)

    def test_far_out(self):
        stretch = ("a", -FAR, FAR, 1)
        for moment, over in ((-FAR - 1, False), (-FAR, True), (0, True), (FAR - 1, True), (FAR, False),
                             (SIXTY, False), (-SIXTY, False)):
            with self.subTest(moment):
                self.assert_told(over, is_over, stretch, moment)


class Meetings(Told, unittest.TestCase):
    def both_ways(self, expected, one, other):
        first, second = ("a",) + one + (1,), ("b",) + other + (2,)
        with self.subTest((one, other)):
            self.assert_told(expected, meet, first, second)
            self.assert_told(expected, meet, second, first)

    def test_two_that_touch(self):
        self.both_ways(False, (0, 5), (5, 9))
        self.both_ways(False, (-1, 0), (0, 1))

    def test_two_apart(self):
        self.both_ways(False, (0, 5), (6, 9))
        self.both_ways(False, (-FAR, -FAR + 1), (FAR - 1, FAR))

    def test_two_that_meet_in_one_moment(self):
        self.both_ways(True, (0, 5), (4, 9))
        self.both_ways(True, (4, 5), (4, 9))
        self.both_ways(True, (8, 9), (4, 9))

    def test_one_within_another(self):
        self.both_ways(True, (0, 9), (3, 5))
        self.both_ways(True, (0, 9), (0, 5))
        self.both_ways(True, (0, 9), (5, 9))

    def test_two_alike(self):
        self.both_ways(True, (3, 5), (3, 5))

    def test_a_long_one(self):
        self.both_ways(True, (-FAR, FAR), (FAR - 1, FAR))
        self.both_ways(True, (-FAR, FAR), (-FAR, FAR))
        self.both_ways(False, (-FAR, 0), (0, FAR))

    def test_by_the_moments_under_both(self):
        for book in drawn_books(12, 60, most=4):
            for one in book:
                for other in book:
                    under = any(one[1] <= p < one[2] and other[1] <= p < other[2] for p in near_moments(book))
                    self.assert_told(under, meet, one, other)


class Books(Told, unittest.TestCase):
    def is_book(self, thing):
        self.assert_told(None, look_at_book, thing)

    def no_book(self, number, thing):
        with self.subTest((number, thing)):
            refusal = self.refused(NoBook, look_at_book, thing)
            self.assert_alike(refusal.number, number)

    def test_books(self):
        self.is_book([])
        self.is_book([("a", 0, 5, 1)])
        self.is_book([("b", 0, 5, 1), ("a", 0, 5, 1), ("ab", -FAR, FAR, FAR)])

    def test_twenty_four_and_twenty_five(self):
        self.is_book(whole_book())
        self.is_book(whole_book()[:23])
        self.no_book(24, whole_book() + [("y", 0, 5, 1)])
        self.no_book(24, whole_book() + [("y", 0, 5, 1), ("z", 0, 5, 1)])
        self.no_book(24, whole_book() + [None])

    def test_no_list(self):
        for thing in ODD_THINGS + [0, 1, ("a", 0, 5, 1), (("a", 0, 5, 1),), tuple(whole_book())]:
            self.no_book(None, thing)

    def test_each_thing_that_is_no_stretch(self):
        for fault in ODD_THINGS + [0, 7, [], ["c", 0, 5, 1], ("c", 5, 5, 1), ("c", 0, 5, -1), ("c", True, 5, 1),
                                   ("C", 0, 5, 1), ("c", 0, 5, 1, 1), [("c", 0, 5, 1)]]:
            good = [("a", 0, 5, 1), ("b", 0, 5, 1)]
            self.no_book(0, [fault] + good)
            self.no_book(1, good[:1] + [fault] + good[1:])
            self.no_book(2, good + [fault])

    def test_a_name_that_stands_already(self):
        self.no_book(1, [("a", 0, 5, 1), ("a", 6, 9, 2)])
        self.no_book(1, [("a", 0, 5, 1), ("a", 0, 5, 1)])
        self.no_book(2, [("a", 0, 5, 1), ("b", 0, 5, 1), ("a", 0, 5, 1)])
        self.no_book(2, [("a", 0, 5, 1), ("b", 0, 5, 1), ("b", 0, 5, 1), ("c", 0, 5, 1)])
        self.no_book(23, whole_book()[:23] + [("a", 0, 5, 1)])

    def test_the_first_of_several_faults(self):
        twice, bad = ("a", 0, 5, 1), None
        self.no_book(1, [twice, twice, bad])
        self.no_book(1, [twice, bad, twice])
        self.no_book(0, [bad, twice, twice])
        self.no_book(1, [twice, bad, bad, bad])
        self.no_book(3, whole_book()[:3] + [bad] + whole_book()[3:] + [bad])
        self.no_book(5, whole_book()[:5] + [("a", 0, 5, 1)] + whole_book()[5:])
        self.no_book(24, whole_book() + [bad, twice])
        self.no_book(24, whole_book() + [twice])

    def test_a_name_of_what_is_no_stretch(self):
        self.no_book(0, [("a", 5, 0, 1), ("a", 0, 5, 1)])

    def test_it_is_a_value_error(self):
        self.assertRaises(ValueError, look_at_book, None)


class Moments(Told, unittest.TestCase):
    def test_none(self):
        self.assert_told([], moments_of, [])

    def test_one(self):
        self.assert_told([3, 7], moments_of, [("a", 3, 7, 1)])

    def test_unlike_and_rising(self):
        book = [("a", 5, 9, 1), ("b", -3, 5, 2), ("c", 5, 9, 3), ("d", -3, 10, 4), ("e", 9, 11, 5)]
        self.assert_told([-3, 5, 9, 10, 11], moments_of, book)

    def test_far_out(self):
        self.assert_told([-FAR, -1, 0, FAR], moments_of, [("a", -FAR, FAR, 1), ("b", -1, 0, 1)])
        piled = piled_book()
        expected = sorted([stretch[1] for stretch in piled] + [stretch[2] for stretch in piled])
        self.assert_told(expected, moments_of, piled)

    def test_a_changed_book_is_another_one(self):
        book = [("a", 0, 5, 1)]
        told = moments_of(book)
        book.append(("b", 7, 8, 1))
        self.assert_alike(told, [0, 5])
        self.assert_alike(moments_of(book), [0, 5, 7, 8])
        told.append(99)
        self.assert_alike(moments_of(book), [0, 5, 7, 8])


class Lying(Told, unittest.TestCase):
    def test_none(self):
        self.assert_told([], lying_over, [], 0)

    def test_begins_and_ends(self):
        book = [("a", 0, 5, 1), ("b", 5, 9, 1), ("c", 0, 9, 1), ("d", 4, 6, 1)]
        for moment, numbers in ((-1, []), (0, [0, 2]), (3, [0, 2]), (4, [0, 2, 3]), (5, [1, 2, 3]), (6, [1, 2]),
                                (8, [1, 2]), (9, []), (10, [])):
            with self.subTest(moment):
                self.assert_told(numbers, lying_over, book, moment)

    def test_far_out(self):
        piled = piled_book()
        for moment in (-SIXTY, -FAR - 1, FAR, SIXTY):
            self.assert_told([], lying_over, piled, moment)
        self.assert_told(list(range(24)), lying_over, piled, 0)
        self.assert_told([0], lying_over, piled, -FAR)
        self.assert_told([0, 1], lying_over, piled, FAR - 2)

    def test_a_changed_book_is_another_one(self):
        book = [("a", 0, 5, 1)]
        told = lying_over(book, 2)
        book.insert(0, ("b", 7, 8, 1))
        self.assert_alike(told, [0])
        self.assert_alike(lying_over(book, 2), [1])
        self.assert_alike(lying_over(book, 7), [0])

    def test_a_book_of_names_in_any_order(self):
        book = [(name, 0, 2, 1) for name in reversed(NAMES[:24])]
        self.assert_told(list(range(24)), lying_over, book, 1)


if __name__ == "__main__":
    unittest.main()
