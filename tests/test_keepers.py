"""The keeper, by points 11.1, 11.2 and 0.4 (h)."""

import random
import unittest
from copy import deepcopy

from benchworth.errors import NoBenches, NoBook, NoStretch, NoUndo, Unknown
from benchworth.keepers import Keeper
from benchworth.most import most_of
from benchworth.rows import row_of
from tests.common import (FAR, NAMES, ODD_THINGS, SIXTY, Told, alike, choice_by_hand, claim_by_hand, drawn_book,
                          drawn_far_book, lists_in, modest_by_hand, most_by_hand, paper_by_hand, row_by_hand, spoil,
                          whole_book, worth_by_hand)

BOOK = [("a", 0, 5, 10), ("b", 3, 8, 20), ("c", 5, 9, 15)]

NO_BENCHES = [-1, 25, 26, SIXTY, -SIXTY, True, False, None, "1", "", [], [1], (1,), {}, b"1", range(3), len]
NO_NAMES = [thing for thing in ODD_THINGS if thing not in ("a", "abc")] + [0, ["a"], ("a",), ("a", 0, 5, 10), "A", "a "]
NO_WORTHS = [-1, FAR + 1, SIXTY, -SIXTY, True, False, None, "10", [], [10], (10,), b"1"]
NO_TIMES = [(5, 5), (6, 5), (-FAR - 1, 5), (0, FAR + 1), (FAR, FAR), (True, 5), (0, True), (False, 5), (None, 5),
            (0, None), ("0", 5), (0, "5"), ([0], 5), (0, [5]), (SIXTY, SIXTY + 1), (-SIXTY, SIXTY)]
NO_STRETCHES = ODD_THINGS + [
    0, [], ["d", 0, 1, 1], ("d", 0, 1), ("d", 0, 1, 1, 1), ("", 0, 1, 1), ("D", 0, 1, 1), ("abcdefghi", 0, 1, 1),
    (None, 0, 1, 1), (0, 0, 1, 1), ("d", 1, 1, 1), ("d", 2, 1, 1), ("d", -FAR - 1, 1, 1), ("d", 0, FAR + 1, 1),
    ("d", 0, 1, -1), ("d", 0, 1, FAR + 1), ("d", True, 2, 1), ("d", 0, True, 1), ("d", 0, 1, True), ("d", 0, 1, None),
    ("d", None, 1, 1), ("d", 0, "1", 1), [("d", 0, 1, 1)], ("d", 0, SIXTY, 1)]


def now(keeper):
    """All that a keeper tells."""
    return (keeper.book_now(), keeper.benches_now(), keeper.worth_now(), keeper.choice_now(), keeper.paper_now(),
            keeper.row_now())


class KeeperCase(Told, unittest.TestCase):
    def stands(self, keeper, book, benches, most=None):
        """That the keeper has just this book and benches, and tells what is told of the book made anew."""
        told = now(keeper)
        self.assert_alike(told[:2], (book, benches))
        worth, choice, paper, row = told[2:]
        self.assert_alike(worth, most_of(book, benches)[0] if most is None else most)
        self.assertTrue(choice_by_hand(book, benches, choice))
        self.assertEqual(worth_by_hand(book, choice), worth)
        self.assertTrue(paper_by_hand(paper) and modest_by_hand(book, paper))
        self.assertEqual(claim_by_hand(book, benches, paper), worth)
        self.assertTrue(row_by_hand(book, row))
        self.assertEqual([step[0] for step in row[1]], [step[0] for step in row_of(book)[1]])
        self.assert_alike(Keeper(book, benches).worth_now(), worth)
        places = [id(one) for one in lists_in(told)]
        self.assertEqual(len(places), len(set(places)), "two places share one list")
        kept = deepcopy(told)
        self.assert_alike(now(keeper), kept)
        spoil(told)
        self.assert_alike(now(keeper), kept)

    def done(self, deed, *handed):
        """A deed, which tells None and neither changes nor keeps what is handed in."""
        mine = deepcopy(handed)
        self.assertIsNone(deed(*mine))
        self.assert_alike(mine, handed)

    def not_done(self, kind, keeper, deed, *handed):
        """That the deed is refused, changes nothing and is nothing to undo."""
        with self.subTest((kind, handed)):
            before, past = now(keeper), self.steps_back(keeper)
            self.refused(kind, deed, *handed)
            self.assert_alike(now(keeper), before)
            self.assertEqual(self.steps_back(keeper), past)

    def steps_back(self, keeper):
        """How many deeds can be undone, told by undoing them on a copy."""
        other, steps = deepcopy(keeper), 0
        while True:
            try:
                other.undo()
            except NoUndo:
                return steps
            steps += 1


class Made(KeeperCase):
    def test_of_a_book_and_benches(self):
        for book in ([], BOOK, whole_book()):
            for benches in (0, 1, 2, 23, 24):
                self.stands(Keeper(book, benches), book, benches)

    def test_worths(self):
        self.assertEqual([Keeper(BOOK, benches).worth_now() for benches in (0, 1, 2, 24)], [0, 25, 45, 45])

    def test_no_book(self):
        for thing in ODD_THINGS + [0, tuple(BOOK), {0: BOOK[0]}]:
            self.assert_alike(self.refused(NoBook, Keeper, thing, 1).number, None)
        for fault in (None, ("a", 0, 5, 10), ("d", 5, 5, 1), ["d", 0, 1, 1], ("d", 0, 1, True)):
            for place in (1, 2, 3):
                book = BOOK[:place] + [fault] + BOOK[place:]
                self.assert_alike(self.refused(NoBook, Keeper, book, 1).number, place)
        self.assert_alike(self.refused(NoBook, Keeper, [None], 1).number, 0)
        self.assert_alike(self.refused(NoBook, Keeper, whole_book() + [("z", 0, 1, 1)], 1).number, 24)

    def test_no_benches(self):
        for benches in NO_BENCHES:
            self.refused(NoBenches, Keeper, BOOK, benches)
            self.refused(NoBenches, Keeper, [], benches)

    def test_no_book_ahead_of_no_benches(self):
        for benches in NO_BENCHES:
            self.assert_alike(self.refused(NoBook, Keeper, None, benches).number, None)
            self.assert_alike(self.refused(NoBook, Keeper, BOOK + [None], benches).number, 3)

    def test_the_book_handed_in_may_change(self):
        mine = deepcopy(BOOK)
        keeper = Keeper(mine, 1)
        mine.append(("z", 100, 101, 1000))
        mine[0] = ("y", 100, 101, 1000)
        self.stands(keeper, BOOK, 1)
        mine.clear()
        self.stands(keeper, BOOK, 1)
        keeper.put(("d", 0, 1, 1))
        self.assert_alike(mine, [])
        keeper.undo()
        self.stands(keeper, BOOK, 1)

    def test_two_keepers_of_one_book(self):
        mine = deepcopy(BOOK)
        one, other = Keeper(mine, 1), Keeper(mine, 2)
        one.gone("a")
        self.stands(one, BOOK[1:], 1)
        self.stands(other, BOOK, 2)
        self.assert_alike(mine, BOOK)


class Deeds(KeeperCase):
    def setUp(self):
        self.keeper = Keeper(BOOK, 1)

    def test_put(self):
        self.done(self.keeper.put, ("d", 9, 12, 7))
        self.stands(self.keeper, BOOK + [("d", 9, 12, 7)], 1, 32)
        self.done(self.keeper.put, ("aa", -FAR, FAR, FAR))
        self.stands(self.keeper, BOOK + [("d", 9, 12, 7), ("aa", -FAR, FAR, FAR)], 1, FAR)

    def test_put_into_nothing(self):
        keeper = Keeper([], 1)
        self.done(keeper.put, ("a", 0, 1, 5))
        self.stands(keeper, [("a", 0, 1, 5)], 1, 5)

    def test_gone(self):
        for number, name in enumerate("abc"):
            keeper = Keeper(BOOK, 1)
            self.done(keeper.gone, name)
            self.stands(keeper, BOOK[:number] + BOOK[number + 1:], 1)
        for name in "bca":
            self.done(self.keeper.gone, name)
        self.stands(self.keeper, [], 1, 0)

    def test_set_worth(self):
        for number, name in enumerate("abc"):
            for worth in (0, 1, 17, FAR):
                keeper = Keeper(BOOK, 1)
                self.done(keeper.set_worth, name, worth)
                book = deepcopy(BOOK)
                book[number] = book[number][:3] + (worth,)
                self.stands(keeper, book, 1)

    def test_slide(self):
        for number, name in enumerate("abc"):
            for begin, end in ((0, 1), (-FAR, FAR), (FAR - 1, FAR), (-FAR, -FAR + 1), (4, 6)):
                keeper = Keeper(BOOK, 1)
                self.done(keeper.slide, name, begin, end)
                book = deepcopy(BOOK)
                book[number] = (name, begin, end, book[number][3])
                self.stands(keeper, book, 1)

    def test_set_benches(self):
        for benches in (0, 1, 2, 24):
            self.done(self.keeper.set_benches, benches)
            self.stands(self.keeper, BOOK, benches)

    def test_a_name_that_is_free_again(self):
        self.done(self.keeper.gone, "a")
        self.done(self.keeper.put, ("a", 1, 2, 3))
        self.stands(self.keeper, BOOK[1:] + [("a", 1, 2, 3)], 1)
        self.done(self.keeper.gone, "a")
        self.not_done(Unknown, self.keeper, self.keeper.gone, "a")

    def test_unknown_names(self):
        for name in ["d", "aa", "", "ab", "abc"] + NO_NAMES:
            self.not_done(Unknown, self.keeper, self.keeper.gone, name)
            self.not_done(Unknown, self.keeper, self.keeper.set_worth, name, 5)
            self.not_done(Unknown, self.keeper, self.keeper.slide, name, 0, 1)
        empty = Keeper([], 1)
        for name in ("a", "", None, []):
            self.not_done(Unknown, empty, empty.gone, name)
        self.stands(self.keeper, BOOK, 1)

    def test_unknown_ahead_of_no_stretch(self):
        for worth in NO_WORTHS:
            self.not_done(Unknown, self.keeper, self.keeper.set_worth, "d", worth)
        for begin, end in NO_TIMES:
            self.not_done(Unknown, self.keeper, self.keeper.slide, "d", begin, end)
            self.not_done(Unknown, self.keeper, self.keeper.slide, None, begin, end)

    def test_what_would_be_no_stretch(self):
        for stretch in NO_STRETCHES:
            self.not_done(NoStretch, self.keeper, self.keeper.put, stretch)
        for name in "abc":
            for worth in NO_WORTHS:
                self.not_done(NoStretch, self.keeper, self.keeper.set_worth, name, worth)
            for begin, end in NO_TIMES:
                self.not_done(NoStretch, self.keeper, self.keeper.slide, name, begin, end)
        self.stands(self.keeper, BOOK, 1)

    def test_a_name_that_is_there(self):
        for name in "abc":
            self.not_done(NoStretch, self.keeper, self.keeper.put, (name, 100, 101, 1))

    def test_the_twenty_fifth(self):
        keeper = Keeper(whole_book()[:23], 3)
        self.done(keeper.put, whole_book()[23])
        self.stands(keeper, whole_book(), 3)
        self.not_done(NoStretch, keeper, keeper.put, ("z", 0, 1, 1))
        self.done(keeper.gone, "k")
        self.done(keeper.put, ("z", 0, 1, 1))
        self.stands(keeper, whole_book()[:10] + whole_book()[11:] + [("z", 0, 1, 1)], 3)
        self.not_done(NoStretch, keeper, keeper.put, ("y", 0, 1, 1))

    def test_no_benches(self):
        for benches in NO_BENCHES:
            self.not_done(NoBenches, self.keeper, self.keeper.set_benches, benches)
        self.stands(self.keeper, BOOK, 1)

    def test_told_books_may_be_changed(self):
        told = self.keeper.book_now()
        told.clear()
        self.stands(self.keeper, BOOK, 1)
        told.append(("z", 0, 1, 1))
        self.keeper.gone("b")
        self.keeper.book_now().reverse()
        self.keeper.undo()
        self.stands(self.keeper, BOOK, 1)

    def test_what_was_told_stays(self):
        told = now(self.keeper)
        kept = deepcopy(told)
        for deed, *handed in ((self.keeper.put, ("d", 0, 1, 1)), (self.keeper.gone, "a"),
                              (self.keeper.set_worth, "b", 1), (self.keeper.slide, "c", 0, 1),
                              (self.keeper.set_benches, 3), (self.keeper.undo,), (self.keeper.undo,)):
            deed(*handed)
            self.assert_alike(told, kept)


class Undone(KeeperCase):
    DEEDS = [("put", ("d", 1, 4, 9)), ("gone", "a"), ("set_worth", "b", 1), ("slide", "c", 0, 3), ("set_benches", 2),
             ("gone", "d"), ("put", ("a", 7, 9, 3)), ("set_benches", 0), ("set_worth", "a", FAR)]

    def test_one_by_one_to_the_begin(self):
        keeper = Keeper(BOOK, 1)
        stood = []
        for deed, *handed in self.DEEDS:
            stood.append((keeper.book_now(), keeper.benches_now()))
            self.done(getattr(keeper, deed), *handed)
        for book, benches in stood[::-1]:
            self.done(keeper.undo)
            self.stands(keeper, book, benches)
        self.stands(keeper, BOOK, 1)
        self.not_done(NoUndo, keeper, keeper.undo)
        self.stands(keeper, BOOK, 1)

    def test_none_to_undo(self):
        for book in ([], BOOK):
            keeper = Keeper(book, 1)
            self.not_done(NoUndo, keeper, keeper.undo)
            self.stands(keeper, book, 1)

    def test_each_deed_alone(self):
        for deed, *handed in (("put", ("d", 1, 4, 9)), ("gone", "b"), ("set_worth", "b", 1), ("slide", "c", 0, 3),
                              ("set_benches", 2)):
            keeper = Keeper(BOOK, 1)
            self.done(getattr(keeper, deed), *handed)
            self.assertFalse(alike((keeper.book_now(), keeper.benches_now()), (BOOK, 1)))
            self.done(keeper.undo)
            self.stands(keeper, BOOK, 1)
            self.not_done(NoUndo, keeper, keeper.undo)

    def test_deeds_that_change_nothing(self):
        keeper = Keeper(BOOK, 1)
        self.done(keeper.set_worth, "a", 5)
        book = [("a", 0, 5, 5)] + BOOK[1:]
        for deed, *handed in (("set_worth", "b", 20), ("slide", "c", 5, 9), ("set_benches", 1)):
            self.done(getattr(keeper, deed), *handed)
            self.stands(keeper, book, 1)
        for _ in range(3):
            self.done(keeper.undo)
            self.stands(keeper, book, 1)
        self.done(keeper.undo)
        self.stands(keeper, BOOK, 1)
        self.not_done(NoUndo, keeper, keeper.undo)

    def test_a_deed_behind_an_undone_one(self):
        keeper = Keeper(BOOK, 1)
        self.done(keeper.gone, "a")
        self.done(keeper.gone, "b")
        self.done(keeper.undo)
        self.done(keeper.set_benches, 2)
        self.stands(keeper, BOOK[1:], 2)
        self.done(keeper.undo)
        self.stands(keeper, BOOK[1:], 1)
        self.done(keeper.undo)
        self.stands(keeper, BOOK, 1)
        self.not_done(NoUndo, keeper, keeper.undo)

    def test_what_is_refused_is_nothing_to_undo(self):
        keeper = Keeper(BOOK, 1)
        self.done(keeper.gone, "b")
        for kind, deed, *handed in ((Unknown, "gone", "b"), (NoStretch, "put", None), (NoBenches, "set_benches", 25),
                                    (NoStretch, "put", ("a", 0, 1, 1)), (NoStretch, "set_worth", "a", -1),
                                    (NoStretch, "slide", "a", 5, 5)):
            self.not_done(kind, keeper, getattr(keeper, deed), *handed)
        self.done(keeper.undo)
        self.stands(keeper, BOOK, 1)
        self.not_done(NoUndo, keeper, keeper.undo)

    def test_many_deeds(self):
        keeper = Keeper(BOOK, 1)
        for worth in range(1500):
            keeper.set_worth("a", worth)
        self.assert_alike(keeper.book_now()[0], ("a", 0, 5, 1499))
        for worth in range(1498, -1, -1):
            keeper.undo()
            self.assert_alike(keeper.book_now()[0], ("a", 0, 5, worth))
        keeper.undo()
        self.stands(keeper, BOOK, 1)
        self.not_done(NoUndo, keeper, keeper.undo)


class Drawn(KeeperCase):
    def deed(self, draw, keeper, book, benches):
        """One deed by a seeded source; the book and benches that come of it, worked out by hand."""
        kind = draw.choice(["put", "put", "gone", "worth", "slide", "benches"])
        book = deepcopy(book)
        if kind == "benches":
            benches = draw.randint(0, 4)
            keeper.set_benches(benches)
        elif kind == "put" or not book:
            free = [name for name in NAMES if name not in [stretch[0] for stretch in book]]
            begin = draw.randint(-9, 9)
            book.append((draw.choice(free), begin, begin + draw.randint(1, 9), draw.randint(0, 9)))
            keeper.put(book[-1])
        else:
            number = draw.randrange(len(book))
            name, begin, end, worth = book[number]
            if kind == "gone":
                keeper.gone(name)
                del book[number]
            elif kind == "worth":
                worth = draw.randint(0, 9)
                keeper.set_worth(name, worth)
                book[number] = (name, begin, end, worth)
            else:
                begin = draw.randint(-9, 9)
                end = begin + draw.randint(1, 9)
                keeper.slide(name, begin, end)
                book[number] = (name, begin, end, worth)
        return book, benches

    def test_small_books_against_all_choices(self):
        draw = random.Random(201)
        for _ in range(15):
            book, benches = drawn_book(draw, most=4), draw.randint(0, 3)
            keeper, past = Keeper(book, benches), []
            for _ in range(15):
                if past and (len(book) > 6 or draw.random() < 0.3):
                    keeper.undo()
                    book, benches = past.pop()
                else:
                    past.append((book, benches))
                    book, benches = self.deed(draw, keeper, book, benches)
                self.stands(keeper, book, benches, most_by_hand(book, benches))
            while past:
                keeper.undo()
                book, benches = past.pop()
                self.stands(keeper, book, benches)
            self.not_done(NoUndo, keeper, keeper.undo)

    def test_a_book_of_twenty_four(self):
        draw = random.Random(202)
        book = drawn_far_book(draw)
        keeper = Keeper(book, 3)
        for number in (0, 12, 23):
            name, begin, end, worth = book[number]
            self.done(keeper.set_worth, name, FAR)
            book[number] = (name, begin, end, FAR)
            self.stands(keeper, book, 3)
            self.done(keeper.slide, name, -FAR, FAR)
            book[number] = (name, -FAR, FAR, FAR)
            self.stands(keeper, book, 3)


if __name__ == "__main__":
    unittest.main()
