"""Texts of books, papers, some and bounds, by points 13.1, 13.2 and 0.4 (j)."""

import random
import unittest

from benchworth.errors import NoText
from benchworth.reader import read_book, read_bounds, read_paper, read_some
from benchworth.writer import write_book, write_bounds, write_paper, write_some
from tests.common import (FAR, NAMES, ODD_THINGS, Told, drawn_book, drawn_bounds, drawn_far_book, drawn_paper,
                          every_some, whole_book)

BOOK = [("dawn", -3, 5, 10), ("noon", 5, 9, 0), ("abcdefgh", -FAR, FAR, FAR)]
BOOK_ROWS = ["stretch dawn -3 5 10", "stretch noon 5 9 0",
             "stretch abcdefgh -1000000000000 1000000000000 1000000000000"]
PAPER = [(-FAR, 1), (0, 7), (FAR - 1, 10 * FAR)]
PAPER_ROWS = ["price -1000000000000 1", "price 0 7", "price 999999999999 10000000000000"]
BOUNDS = [(-FAR, 0), (0, 24), (FAR, 3)]
BOUNDS_ROWS = ["from -1000000000000 0", "from 0 24", "from 1000000000000 3"]
SOME_ROWS = ["chosen dawn", "chosen noon", "chosen abcdefgh"]

NO_TEXTS = [thing for thing in ODD_THINGS if not isinstance(thing, str)] + [
    0, 7, [], ["stretch a 0 1 1"], b"stretch a 0 1 1", ("a", 0, 1, 1), [("a", 0, 1, 1)]]

# Numbers that are written otherwise, by the number that they would be.
OTHERWISE = ["0{0}", "00{0}", "+{0}", " {0}", "{0} ", "{0}.", "{0}.0", "-0{0}", "--{0}", "{0}-", "{0}a", "a{0}",
             "\t{0}", "{0}\t", "0x{0}", "{0}e0", "{0}_0", "{0},", "({0})"]
NO_NUMBERS = ["", "-", "+", "a", ".", "-a", "-0", "00", "+0", "None", "True", "\t", "_", "1_0"]


def rows(*parts):
    return "\n".join(parts)


class Writes(Told, unittest.TestCase):
    def test_of_nothing(self):
        self.assert_told("", write_book, [])
        self.assert_told("", write_paper, [])
        self.assert_told("", write_some, [], [])
        self.assert_told("", write_some, BOOK, [])

    def test_of_one(self):
        self.assert_told(BOOK_ROWS[0], write_book, BOOK[:1])
        self.assert_told(PAPER_ROWS[1], write_paper, PAPER[1:2])
        self.assert_told(SOME_ROWS[2], write_some, BOOK, [2])
        self.assert_told("from 5 3", write_bounds, [(5, 3)])

    def test_of_many(self):
        self.assert_told(rows(*BOOK_ROWS), write_book, BOOK)
        self.assert_told(rows(*PAPER_ROWS), write_paper, PAPER)
        self.assert_told(rows(*SOME_ROWS), write_some, BOOK, [0, 1, 2])
        self.assert_told(rows(*SOME_ROWS[::2]), write_some, BOOK, [0, 2])
        self.assert_told(rows(*BOUNDS_ROWS), write_bounds, BOUNDS)


class ReadsWhatIsWritten(Told, unittest.TestCase):
    def test_of_nothing(self):
        self.assert_told([], read_book, "")
        self.assert_told([], read_paper, "")
        self.assert_told([], read_some, [], "")
        self.assert_told([], read_some, BOOK, "")

    def test_ordinary_ones(self):
        self.assert_told(BOOK, read_book, rows(*BOOK_ROWS))
        self.assert_told(PAPER, read_paper, rows(*PAPER_ROWS))
        self.assert_told([0, 2], read_some, BOOK, rows(*SOME_ROWS[::2]))
        self.assert_told(BOUNDS, read_bounds, rows(*BOUNDS_ROWS))

    def test_the_most_that_there_may_be(self):
        self.assert_told(whole_book(), read_book, write_book(whole_book()))
        self.assert_told(list(range(24)), read_some, whole_book(), write_some(whole_book(), list(range(24))))
        paper = [(moment, moment + 1) for moment in range(48)]
        self.assert_told(paper, read_paper, write_paper(paper))
        bounds = [(moment, moment % 25) for moment in range(24)]
        self.assert_told(bounds, read_bounds, write_bounds(bounds))

    def test_drawn(self):
        draw = random.Random(221)
        for _ in range(100):
            book, paper, bounds = drawn_book(draw), drawn_paper(draw), drawn_bounds(draw)
            self.assert_told(book, read_book, write_book(book))
            self.assert_told(paper, read_paper, write_paper(paper))
            self.assert_told(bounds, read_bounds, write_bounds(bounds))
            for some in every_some(book[:4]):
                self.assert_told(some, read_some, book, write_some(book, some))
        for _ in range(20):
            book = drawn_far_book(draw)
            self.assert_told(book, read_book, write_book(book))


class Faults(Told, unittest.TestCase):
    def no_text(self, row, question, *handed):
        with self.subTest(handed[-1]):
            refusal = self.refused(NoText, question, *handed)
            self.assert_alike(refusal.row, row)

    def faulty_rows(self, good, faults, question, *handed):
        """That each fault is told at the first, a middle and the last row."""
        for fault in faults:
            for place in range(len(good) + 1):
                self.no_text(place, question, *handed, rows(*good[:place], fault, *good[place:]))
            self.no_text(0, question, *handed, fault)

    def test_no_text(self):
        for thing in NO_TEXTS:
            self.no_text(0, read_book, thing)
            self.no_text(0, read_paper, thing)
            self.no_text(0, read_some, BOOK, thing)
            self.no_text(0, read_some, [], thing)
            self.no_text(0, read_bounds, thing)

    def test_bounds_of_the_text_without_signs(self):
        self.no_text(0, read_bounds, "")

    def test_an_empty_row(self):
        for good, question, handed in ((BOOK_ROWS, read_book, ()), (PAPER_ROWS, read_paper, ()),
                                       (SOME_ROWS, read_some, (BOOK,)), (BOUNDS_ROWS, read_bounds, ())):
            for place in range(len(good) + 1):
                self.no_text(place, question, *handed, rows(*good[:place], "", *good[place:]))
            self.no_text(3, question, *handed, rows(*good) + "\n")
            self.no_text(3, question, *handed, rows(*good) + "\n\n")
            self.no_text(1, question, *handed, good[0] + "\n")
            self.no_text(0, question, *handed, "\n" + good[0])
            self.no_text(0, question, *handed, "\n")
            self.no_text(0, question, *handed, "\n\n")
            self.no_text(0, question, *handed, " ")
            self.no_text(0, question, *handed, "\t")
            self.no_text(1, question, *handed, rows(good[0], "", "", good[1]))

    def spoilt(self, row):
        """The row with a word otherwise, one too few or too many, two blanks, a blank at an end, a tab."""
        words = row.split(" ")
        found = [" " + row, row + " ", "\t" + row, row + "\t", row.replace(" ", "  ", 1), row.replace(" ", "\t", 1),
                 row.replace(" ", "  "), row + " 0", row + " x", row.upper(), row.capitalize(), " ".join(words[1:]),
                 " ".join(words[:-1]), words[0], words[0] + " ", " ".join(words[::-1]), row + ";", row + "; " + row,
                 " ".join(words[:1] + words[2:]), row.replace(" ", "", 1), row.replace(" ", ","), f"{row} {row}"]
        found += [row.replace(words[0], other, 1) for other in (
            "stretches", "prices", "choose", "form", "x", "", words[0][:-1], words[0] + "s", words[0].upper())]
        return found

    def test_rows_of_books_spoilt(self):
        self.faulty_rows(BOOK_ROWS, self.spoilt("stretch x 0 1 5"), read_book)
        self.faulty_rows(BOOK_ROWS, ["price 0 5", "chosen x", "from 0 5", "stretch 0 x 1 5"], read_book)

    def test_rows_of_papers_spoilt(self):
        good = ["price 1 5", "price 3 5", "price 5 5"]
        for place in range(4):
            self.faulty_rows_at(good, place, self.spoilt(f"price {2 * place} 5"), read_paper)
            self.faulty_rows_at(good, place, ["stretch x 0 1 5", f"from {2 * place} 5", f"price 5 {2 * place} 5"],
                                read_paper)

    def test_rows_of_bounds_spoilt(self):
        good = ["from 1 5", "from 3 5", "from 5 5"]
        for place in range(4):
            self.faulty_rows_at(good, place, self.spoilt(f"from {2 * place} 5"), read_bounds)
            self.faulty_rows_at(good, place, ["stretch x 0 1 5", f"price {2 * place} 5"], read_bounds)

    def test_rows_of_some_spoilt(self):
        book = [(name, 0, 1, 1) for name in "abcdefg"]
        good = ["chosen b", "chosen d", "chosen f"]
        for place in range(4):
            faults = [one for one in self.spoilt(f"chosen {'aceg'[place]}")]
            self.faulty_rows_at(good, place, faults + ["price 0 1", "chosen", "chosen  ", f"chosen {2 * place}"],
                                read_some, book)

    def faulty_rows_at(self, good, place, faults, question, *handed):
        """That each fault is told at this place; the rest is right."""
        for fault in faults:
            self.no_text(place, question, *handed, rows(*good[:place], fault, *good[place:]))

    def test_numbers_written_otherwise(self):
        begins = [way.format(3) for way in OTHERWISE] + NO_NUMBERS
        self.faulty_rows(BOOK_ROWS, [f"stretch x {begin} 7 5" for begin in begins], read_book)
        ends = [way.format(7) for way in OTHERWISE] + NO_NUMBERS
        self.faulty_rows(BOOK_ROWS, [f"stretch x 3 {end} 5" for end in ends], read_book)
        worths = [way.format(5) for way in OTHERWISE] + NO_NUMBERS
        self.faulty_rows(BOOK_ROWS, [f"stretch x 3 7 {worth}" for worth in worths], read_book)
        for word, question in (("price", read_paper), ("from", read_bounds)):
            good = [f"{word} 1 5", f"{word} 3 5"]
            for place, moment in enumerate((0, 2, 4)):
                moments = [way.format(moment) for way in OTHERWISE] + NO_NUMBERS
                self.faulty_rows_at(good, place, [f"{word} {other} 5" for other in moments], question)
                self.faulty_rows_at(good, place, [f"{word} {moment} {other}" for other in worths], question)

    def test_numbers_below_0(self):
        self.assert_told([("a", -7, -3, 5)], read_book, "stretch a -7 -3 5")
        for begin in ("-07", "- 7", "--7", "-+7", "+-7", "-7-", "~7"):
            self.no_text(0, read_book, f"stretch a {begin} -3 5")
        self.assert_told([("a", 0, 3, 0)], read_book, "stretch a 0 3 0")
        for nought in ("-0", "00", "+0", "000", "-00"):
            self.no_text(0, read_book, f"stretch a {nought} 3 0")
            self.no_text(0, read_book, f"stretch a 0 3 {nought}")

    def test_very_many_figures(self):
        for figures in (13, 14, 15, 16, 60, 100, 1000, 1900):
            many = "9" * figures
            self.faulty_rows(BOOK_ROWS, [f"stretch x 0 {many} 5", f"stretch x -{many} 0 5", f"stretch x 0 5 {many}",
                                         f"stretch x 0 5 -{many}", f"stretch x {many} {many} 5"], read_book)
            self.faulty_rows(PAPER_ROWS[:0], [f"price {many} 5", f"price -{many} 5"], read_paper)
            self.no_text(1, read_paper, f"price 0 1\nprice {many} 5")
            self.no_text(1, read_bounds, f"from 0 1\nfrom {many} 5")
            self.no_text(0, read_bounds, f"from 0 {many}")
        for figures in (14, 15, 60, 1900):
            self.no_text(0, read_paper, "price 0 " + "9" * figures)
            self.no_text(0, read_paper, "price 0 1" + "0" * figures)
            self.no_text(0, read_paper, "price 0 " + "0" * figures + "1")

    def test_beyond_what_is_told(self):
        self.faulty_rows(BOOK_ROWS, [
            f"stretch x {-FAR - 1} 0 5", f"stretch x 0 {FAR + 1} 5", f"stretch x 0 1 {FAR + 1}", "stretch x 0 1 -1",
            "stretch x 1 1 5", "stretch x 2 1 5", "stretch X 0 1 5", "stretch x1 0 1 5", "stretch abcdefghi 0 1 5",
            "stretch  0 1 5", "stretch x- 0 1 5", "stretch None 0 1 5"], read_book)
        self.no_text(0, read_paper, f"price {-FAR - 1} 5")
        self.no_text(1, read_paper, f"price 0 5\nprice {FAR} 5")
        self.no_text(1, read_paper, "price 0 5\nprice 1 0\nprice 2 5")
        self.no_text(1, read_paper, "price 0 5\nprice 1 -1\nprice 2 5")
        self.no_text(1, read_paper, f"price 0 5\nprice 1 {10 * FAR + 1}")
        self.no_text(0, read_bounds, f"from {-FAR - 1} 5")
        self.no_text(1, read_bounds, f"from 0 5\nfrom {FAR + 1} 5")
        self.no_text(1, read_bounds, "from 0 5\nfrom 1 25\nfrom 2 5")
        self.no_text(0, read_bounds, "from 0 -1")

    def test_a_name_that_is_there_already(self):
        for place, row in enumerate(BOOK_ROWS):
            self.no_text(place + 1, read_book, rows(*BOOK_ROWS[:place + 1], row, *BOOK_ROWS[place + 1:]))
        self.no_text(3, read_book, rows(*BOOK_ROWS, "stretch dawn 0 1 1", "stretch x 0 1 1"))
        self.no_text(2, read_book, rows(*BOOK_ROWS[:2], "stretch noon 7 8 1", BOOK_ROWS[2]))
        for place, row in enumerate(SOME_ROWS):
            self.no_text(place + 1, read_some, BOOK, rows(*SOME_ROWS[:place + 1], row, *SOME_ROWS[place + 1:]))

    def test_a_name_that_the_book_has_not(self):
        self.faulty_rows(SOME_ROWS, ["chosen x", "chosen", "chosen ", "chosen Dawn", "chosen daw", "chosen dawns",
                                     "chosen 0", "chosen dawn noon", "chosen -"], read_some, BOOK)
        self.no_text(0, read_some, [], "chosen dawn")

    def test_numbers_that_do_not_rise(self):
        self.no_text(1, read_some, BOOK, rows(SOME_ROWS[1], SOME_ROWS[0]))
        self.no_text(1, read_some, BOOK, rows(SOME_ROWS[2], SOME_ROWS[0], SOME_ROWS[1]))
        self.no_text(2, read_some, BOOK, rows(SOME_ROWS[0], SOME_ROWS[2], SOME_ROWS[1]))

    def test_moments_that_do_not_rise(self):
        for word, question in (("price", read_paper), ("from", read_bounds)):
            self.no_text(1, question, rows(f"{word} 5 1", f"{word} 5 1"))
            self.no_text(1, question, rows(f"{word} 5 1", f"{word} 4 1", f"{word} 6 1"))
            self.no_text(2, question, rows(f"{word} 5 1", f"{word} 6 1", f"{word} 6 2", f"{word} 7 1"))
            self.no_text(2, question, rows(f"{word} -5 1", f"{word} 0 1", f"{word} -1 1"))

    def test_the_twenty_fifth_and_the_forty_ninth(self):
        good = write_book(whole_book())
        for more in ("stretch z 0 1 1", "stretch z 0 1 1\nstretch y 0 1 1", "", "stretch a 0 1 1"):
            self.no_text(24, read_book, good + "\n" + more)
        paper = write_paper([(moment, 1) for moment in range(48)])
        self.no_text(48, read_paper, paper + "\nprice 48 1")
        self.no_text(48, read_paper, paper + "\nprice 48 1\nprice 49 1")
        bounds = write_bounds([(moment, 1) for moment in range(24)])
        self.no_text(24, read_bounds, bounds + "\nfrom 24 1")
        self.no_text(24, read_bounds, bounds + "\nfrom 24 1\nx")
        book = whole_book()
        self.no_text(24, read_some, book, write_some(book, list(range(24))) + "\nchosen x")

    def test_the_first_of_several(self):
        self.no_text(1, read_book, rows(BOOK_ROWS[0], "x", BOOK_ROWS[0], "y"))
        self.no_text(0, read_book, rows("x", BOOK_ROWS[0], BOOK_ROWS[0]))
        self.no_text(1, read_book, rows(BOOK_ROWS[0], BOOK_ROWS[0], "x"))
        self.no_text(2, read_book, rows(*BOOK_ROWS[:2], "", *BOOK_ROWS[:2]))

    def test_some_of_another_book(self):
        other = [(name, 0, 1, 1) for name in NAMES[:5]]
        self.assert_told([1, 3], read_some, other, "chosen b\nchosen d")
        self.no_text(1, read_some, other[:3], "chosen b\nchosen d")
        self.no_text(1, read_some, other[::-1], "chosen b\nchosen d")

    def test_other_line_ends(self):
        self.no_text(0, read_book, BOOK_ROWS[0] + "\r\n" + BOOK_ROWS[1])
        self.no_text(0, read_book, BOOK_ROWS[0] + "; " + BOOK_ROWS[1])
        self.no_text(0, read_paper, "price 0 1 price 1 1")

    def test_it_is_a_value_error(self):
        for question in (read_book, read_paper, read_bounds):
            self.assertRaises(ValueError, question, None)


if __name__ == "__main__":
    unittest.main()
