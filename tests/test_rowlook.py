"""Looks at rows, by points 6.1 and 0.4 (c)."""

import random
import unittest
from copy import deepcopy

from benchworth.rowlook import lets_row
from benchworth.rows import row_of
from tests.common import (FAR, NAMES, ODD_THINGS, SIXTY, Told, claim_by_hand, drawn_books, drawn_far_book,
                          drawn_paper, every_some, most_by_hand, otherwise, piled_book, row_by_hand, whole_book,
                          worth_by_hand)

# One bench holds c or a and b, two hold these together, three hold all: each bench brings less.
BOOK = [("a", 0, 5, 10), ("b", 5, 9, 20), ("c", 4, 6, 40), ("d", 0, 9, 15), ("e", 20, 30, 80)]
ROW = ("row",
       [(0, []), (120, [2, 4]), (150, [0, 1, 2, 4]), (165, [0, 1, 2, 3, 4])],
       [[(4, 20), (5, 20), (25, 80)], [(4, 10), (5, 20)], [(4, 5), (5, 10)], []])


def put(row, *way_and_thing):
    """The row with another thing at the end of the way."""
    at, *further = way_and_thing
    parts = list(row)
    parts[at] = put(row[at], *further) if len(further) > 1 else further[0]
    return type(row)(parts)


class LooksAtRows(Told, unittest.TestCase):
    def right(self, book, thing):
        with self.subTest(thing):
            self.assertTrue(row_by_hand(book, thing))
            self.assert_told(True, lets_row, book, thing)

    def wrong(self, book, thing):
        with self.subTest(thing):
            self.assertFalse(row_by_hand(book, thing))
            self.assert_told(False, lets_row, book, thing)

    def test_told_rows(self):
        for book in ([], BOOK, whole_book(), piled_book(), [("a", 0, 5, 0)], [("a", -FAR, FAR, FAR)]):
            self.right(book, row_of(book))
        for book in drawn_books(83, 60):
            self.right(book, row_of(book))

    def test_one_that_is_written_by_hand(self):
        self.right(BOOK, ROW)

    def test_a_row_of_another_book(self):
        self.wrong(BOOK[:-1], ROW)
        self.wrong([], ROW)
        self.wrong(BOOK, row_of(BOOK[:-1]))
        self.wrong(BOOK + [("f", 0, 9, 0)], ROW)
        self.wrong(BOOK + [("f", 40, 41, 1)], ROW)
        self.right(BOOK + [("f", 40, 41, 0)], ROW)
        self.wrong(BOOK[:4] + [("e", 20, 30, 81)], ROW)
        self.right(BOOK[:2] + [("c", 3, 6, 40)] + BOOK[3:], ROW)
        self.wrong(BOOK[:2] + [("c", 4, 5, 40)] + BOOK[3:], ROW)

    def test_of_a_book_without_stretches(self):
        self.right([], ("row", [(0, [])], [[]]))
        for thing in (("row", [], []), ("row", [(0, [])], []), ("row", [], [[]]), ("row", [(1, [])], [[]]),
                      ("row", [(0, [0])], [[]]), ("row", [(0, [])], [[(0, 1)]]), ("row", [(False, [])], [[]]),
                      ("row", [(0, [])], [()]), ("row", [(0, ())], [[]]), ("row", [[0, []]], [[]]),
                      ("row", [(0, []), (0, [])], [[], []]), ("row", ((0, []),), [[]]), ("row", [(0, [])], ([],)),
                      ["row", [(0, [])], [[]]], ("rows", [(0, [])], [[]]), ("row", [(0, [])], [[]], [])):
            self.wrong([], thing)

    def test_a_worth_one_more_or_less(self):
        for benches, worth in enumerate((0, 120, 150, 165)):
            self.wrong(BOOK, put(ROW, 1, benches, 0, worth + 1))
            self.wrong(BOOK, put(ROW, 1, benches, 0, worth - 1))

    def test_a_choice_that_is_none_for_so_many_benches(self):
        # Each of the same worth as what it stands for.
        book = [("a", 0, 5, 10), ("b", 5, 9, 10), ("c", 0, 5, 5), ("d", 4, 6, 5), ("e", 4, 9, 10)]
        row = row_of(book)
        self.right(book, row)
        self.right(book, put(row, 1, 1, (20, [0, 1])))
        self.right(book, put(row, 1, 1, (20, [0, 1]))[:2] + (row[2],))
        self.wrong(book, put(row, 1, 1, (20, [0, 4])))
        self.wrong(book, put(row, 1, 1, (20, [0, 2, 3])))
        self.wrong(BOOK, put(ROW, 1, 0, (0, [4])))

    def test_a_choice_of_another_worth(self):
        for benches, choice in ((0, [2]), (1, [2]), (1, []), (1, [0, 1, 4]), (2, [2, 4]), (2, [0, 1, 4]),
                                (3, [0, 1, 2, 4]), (3, [])):
            self.wrong(BOOK, put(ROW, 1, benches, 1, choice))

    def test_a_choice_that_is_worth_less_with_its_worth(self):
        for benches, choice in ((1, [2]), (1, []), (1, [0, 1, 4]), (2, [2, 4]), (3, [0, 1, 2, 4])):
            self.wrong(BOOK, put(ROW, 1, benches, (worth_by_hand(BOOK, choice), choice)))

    def test_choices_that_are_no_some(self):
        for choice in ([4, 2], [2, 2, 4], [2, 4, 5], [-1, 2, 4], [True, 4], (2, 4), {2: 4}, "24", None, 2, [2, "4"],
                       [2, None], [[2, 4]]):
            self.wrong(BOOK, put(ROW, 1, 1, 1, choice))
        self.wrong(BOOK[:1], ("row", [(0, []), (10, [False])], [[(0, 10)], []]))
        self.right(BOOK[:1], ("row", [(0, []), (10, [0])], [[(0, 10)], []]))
        self.wrong(BOOK[:2], ("row", [(0, []), (30, [0, True])], [[(0, 10), (5, 20)], []]))
        self.right(BOOK[:2], ("row", [(0, []), (30, [0, 1])], [[(0, 10), (5, 20)], []]))

    def test_a_step_left_out_or_put_in(self):
        word, steps, papers = ROW
        for at in range(4):
            fewer, fewer_papers = steps[:at] + steps[at + 1:], papers[:at] + papers[at + 1:]
            self.wrong(BOOK, (word, fewer, papers))
            self.wrong(BOOK, (word, fewer, fewer_papers))
            self.wrong(BOOK, (word, steps[:at] + [steps[at]] + steps[at:], papers))
            self.wrong(BOOK, (word, steps[:at] + [steps[at]] + steps[at:], papers[:at] + [papers[at]] + papers[at:]))
        self.wrong(BOOK, (word, steps + [(165, [0, 1, 2, 3, 4])], papers + [[]]))
        self.wrong(BOOK, (word, steps[:3], papers[:2] + [[]]))
        self.wrong(BOOK, (word, [], []))

    def test_a_paper_left_out_or_put_in(self):
        word, steps, papers = ROW
        for at in range(4):
            self.wrong(BOOK, (word, steps, papers[:at] + papers[at + 1:]))
            self.wrong(BOOK, (word, steps, papers[:at] + [papers[at]] + papers[at:]))
        self.wrong(BOOK, (word, steps, papers + [[]]))
        self.wrong(BOOK, (word, steps, []))

    def test_a_paper_that_claims_otherwise_for_one_of_its_steps(self):
        papers = ROW[2]
        for at in range(1, 3):
            # The one ahead claims its own step's worth, and too much for the next one.
            self.wrong(BOOK, put(ROW, 2, at, papers[at - 1]))
        for at in range(2):
            # The one behind claims the next step's worth, and too much for its own one.
            self.wrong(BOOK, put(ROW, 2, at, papers[at + 1]))
        self.wrong(BOOK, put(ROW, 2, 2, []))

    def test_a_price_more_where_no_stretch_is(self):
        for at, paper in enumerate(ROW[2]):
            self.wrong(BOOK, put(ROW, 2, at, paper + [(50, 1)]))
            self.wrong(BOOK, put(ROW, 2, at, [(-50, 1)] + paper))

    def test_a_price_in_the_last_paper(self):
        # In place of rests: what the last step is worth is claimed all the same, and also for any more benches.
        book = [("a", 0, 5, 10)]
        self.right(book, ("row", [(0, []), (10, [0])], [[(3, 10)], []]))
        self.wrong(book, ("row", [(0, []), (10, [0])], [[(3, 10)], [(3, 10)]]))
        self.wrong(book, ("row", [(0, []), (10, [0])], [[(3, 10)], [(3, 1)]]))
        self.wrong([], ("row", [(0, [])], [[(3, 1)]]))
        self.assertEqual(claim_by_hand(BOOK, 3, [(5, 1)]), 165)
        self.wrong(BOOK, put(ROW, 2, 3, [(5, 1)]))
        self.wrong(BOOK, put(ROW, 2, 3, [(4, 15)]))

    def test_papers_that_are_none(self):
        for paper in ([(5, 20), (4, 20), (25, 80)], [(4, 10), (4, 10), (5, 20), (25, 80)],
                      [(4, 20), (5, 20), (25, 80), (50, 0)], ((4, 20), (5, 20), (25, 80)),
                      [[4, 20], (5, 20), (25, 80)], None, 0, "", {}, [(4, 20), (5, 20), (25, 80), None],
                      [(4, 20), (5, 20), (25, 80), (FAR, 1)], [(4, 20), (5, 21), (25, 80), (50, -1)]):
            self.wrong(BOOK, put(ROW, 2, 0, paper))
        for paper in ((), None, False, {}, "", 0):
            self.wrong(BOOK, put(ROW, 2, 3, paper))

    def test_true_and_false(self):
        book = [("a", 0, 1, 1), ("b", 0, 2, 1)]
        row = ("row", [(0, []), (1, [1]), (2, [0, 1])], [[(0, 1)], [(0, 1)], []])
        self.right(book, row)
        for way in ((1, 0, 0, False), (1, 1, 0, True), (1, 1, 1, [True]), (1, 2, 1, [False, 1]), (1, 2, 1, [0, True]),
                    (2, 0, [(False, 1)]), (2, 0, [(0, True)]), (2, 1, [(False, 1)]), (2, 1, [(0, True)])):
            self.wrong(book, put(row, *way))
        self.wrong([("a", 0, 1, 1)], ("row", [(0, []), (True, [0])], [[(0, 1)], []]))

    def test_another_word(self):
        for word in ("rows", "Row", "ROW", "ro", "", " row", "row ", b"row", None, 0, True, ["row"], ("row",), "most"):
            self.wrong(BOOK, put(ROW, 0, word))

    def test_another_form(self):
        word, steps, papers = ROW
        for thing in (list(ROW), ROW[:2], ROW + ([],), (steps, papers), (word, papers, steps), (ROW,), [ROW],
                      (word, tuple(steps), papers), (word, steps, tuple(papers)),
                      (word, dict(enumerate(steps)), papers), (word, steps, dict(enumerate(papers))),
                      (word, None, papers), (word, steps, None),
                      (word, 4, papers), (word, steps, "abcd"), (word, "abcd", papers)):
            self.wrong(BOOK, thing)
        for at, step in enumerate(steps):
            for other in (list(step), step[:1], step + (0,), step[::-1], step[0], step[1], (), None, (None, step[1])):
                self.wrong(BOOK, put(ROW, 1, at, other))

    def test_other_things(self):
        for thing in ODD_THINGS + [[], [1], 0, 1, -1, SIXTY, "row", ("row",), ("row", []), ("row", 1, 2),
                                   ("row", [], []), ("row", None, None), {"row": [], 1: 2, 3: 4}, [[]] * 3,
                                   ((), (), ())]:
            for book in ([], BOOK):
                self.wrong(book, thing)

    def test_one_thing_otherwise(self):
        seen = {True: 0, False: 0}
        books = [BOOK[:3], [("a", 0, 1, 1), ("b", 0, 2, 1)], [("a", 0, 1, 0), ("b", 0, 1, 1), ("c", 3, 4, 2)], []]
        for book in books + drawn_books(84, 6, most=4, last=4):
            for thing in otherwise(row_of(book)):
                expected = row_by_hand(book, thing)
                self.assert_alike(lets_row(book, deepcopy(thing)), expected)
                seen[expected] += 1
        self.assertGreater(seen[False], 1000)

    def test_papers_with_more_prices_than_are_told(self):
        # Any paper does that claims both worths, also one of forty-eight prices, or of dear ones.
        book = [("a", 0, 100, 48), ("b", 0, 100, 48)]
        prices = [(moment, 1) for moment in range(48)]
        steps = [(0, []), (48, [0]), (96, [0, 1])]
        self.right(book, ("row", steps, [prices, prices, []]))
        self.right(book, ("row", steps, [prices, [(99, 48)], []]))
        self.wrong(book, ("row", steps, [prices, prices + [(48, 1)], []]))
        self.wrong([("a", 0, 100, 49)], ("row", [(0, []), (49, [0])], [prices + [(48, 1)], []]))

    def test_whatever_is_let_by_tells_the_most(self):
        draw = random.Random(85)
        let_by = 0
        for book in drawn_books(86, 60, most=4, last=3):
            row = row_of(book)
            best = [most_by_hand(book, benches) for benches in range(len(row[1]))]
            for _ in range(40):
                some = [draw.choice(every_some(book)) for _ in row[1]]
                steps = [(worth_by_hand(book, one), one) for one in some]
                papers = [draw.choice([paper, drawn_paper(draw, most=2, last=3)]) for paper in row[2]]
                if lets_row(book, ("row", steps, papers)):
                    let_by += 1
                    self.assertEqual([worth for worth, choice in steps], best)
        self.assertGreater(let_by, 20)

    def test_twenty_four(self):
        draw = random.Random(87)
        for book in [piled_book(), whole_book()] + [drawn_far_book(draw) for _ in range(5)]:
            row = row_of(book)
            self.right(book, row)
            last = len(row[1]) - 1
            for at in (0, 1, last // 2, last):
                worth, choice = row[1][at]
                self.wrong(book, put(row, 1, at, (worth + 1, choice)))
                self.wrong(book, put(row, 1, at, (worth - 1, choice)))
                self.wrong(book, put(row, 2, at, [(FAR - 1, 1)]))
        self.wrong(piled_book(), row_of(piled_book(23)))
        self.wrong(piled_book(23), row_of(piled_book()))

    def test_worths_far_beyond(self):
        book = [(name, 0, 1, FAR) for name in NAMES[:24]]
        row = row_of(book)
        self.right(book, row)
        self.wrong(book, put(row, 1, 24, 0, SIXTY))
        self.wrong(book, put(row, 1, 0, 0, -SIXTY))


if __name__ == "__main__":
    unittest.main()
