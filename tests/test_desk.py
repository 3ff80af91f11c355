"""The desk, by points 14.1, 14.2 and 0.4 (j)."""

import random
import unittest
from copy import deepcopy

from benchworth.bounded import most_within
from benchworth.desk import Desk
from benchworth.errors import NoRow, NoStretch, NoText, NoUndo, TooMany, Unknown
from benchworth.keepers import Keeper
from benchworth.most import most_of
from benchworth.papers import claim
from benchworth.reader import read_book
from benchworth.rows import more_by, most_by, row_of
from benchworth.seats import seats_for
from benchworth.wanted import bench_more, beside, rest_of_book, wanted
from benchworth.writer import write_book, write_paper
from tests.common import (FAR, NAMES, ODD_THINGS, Told, choice_by_hand, drawn_book, drawn_far_book, drawn_paper,
                          most_by_hand, seats_by_hand, whole_book, worth_by_hand)

BOOK = [("dawn", 0, 5, 10), ("noon", 5, 9, 20), ("all", 0, 9, 25)]
TEXT = "stretch dawn 0 5 10; stretch noon 5 9 20; stretch all 0 9 25"

# Each kind of row, of a desk that has BOOK by the name b, and how it is answered.
ROWS = [
    ("book c stretch x 0 1 5", "ok"),
    ("book b stretch x 0 1 5", "ok"),
    ("shown b", TEXT),
    ("drop b", "ok"),
    ("names", "b"),
    ("put b eve 9 12 7", "ok"),
    ("gone b noon", "ok"),
    ("worth b all 99", "ok"),
    ("slide b dawn -4 3", "ok"),
    ("most b 1", "30"),
    ("who b 1", "dawn 0; noon 0"),
    ("claim b 1 price 0 10; price 5 20", "30"),
    ("row b", "0 30 55"),
    ("more b 1", "25"),
    ("wanted b 1 dawn", "5"),
]
# With these the words of a row are told apart: not a TEXT.
WORDY = [row for row, answer in ROWS if not row.startswith(("book", "claim"))]
WITH_STRETCH = ["put b {0} 9 12 7", "gone b {0}", "worth b {0} 99", "slide b {0} -4 3", "wanted b 1 {0}"]
WITH_BENCHES = ["most b {0}", "who b {0}", "claim b {0} ", "claim b {0} price 0 1", "wanted b {0} dawn"]
WITH_NUMBER = ["put b eve {0} 900000 7", "put b eve -900000 {0} 7", "put b eve 9 12 {0}", "worth b all {0}",
               "slide b dawn {0} 900000", "slide b dawn -900000 {0}"]
NO_NAMES = ["B", "b1", "abcdefghi", "b-", "-", "7", "b;", "b,", "b\t", "\t", "_"]
NO_NUMBERS = ["07", "00", "-0", "-07", "+7", "7.", "7.0", "x", "--7", "7-", "-", "0x7", "7,", "1_0", "7\t", "\t7", "7;"]


def desk_with(*books):
    """A desk that keeps these books by the names b, c and so on."""
    desk = Desk()
    for name, book in zip(NAMES[1:], books):
        desk.say(f"book {name} " + write_book(book).replace("\n", "; "))
    return desk


class DeskCase(Told, unittest.TestCase):
    def kept(self, desk):
        """All that a desk keeps, told by itself."""
        names = desk.say("names")
        return {name: desk.say(f"shown {name}") for name in names.split(" ") if names != "-"}

    def answers(self, desk, row, expected):
        with self.subTest(row):
            self.assert_alike(desk.say(row), expected)

    def refuses(self, kind, desk, row):
        """That the row is refused with just this kind, twice, and changes nothing."""
        with self.subTest((kind.__name__, row)):
            before = self.kept(desk)
            refusal = self.refused(kind, desk.say, row)
            self.assertEqual(self.kept(desk), before)
            return refusal

    def no_text(self, desk, row, number):
        self.assert_alike(self.refuses(NoText, desk, row).row, number)


class Answers(DeskCase):
    def test_each_row(self):
        for row, answer in ROWS:
            self.answers(desk_with(BOOK), row, answer)

    def test_book_and_shown(self):
        desk = Desk()
        self.answers(desk, "book b " + TEXT, "ok")
        self.answers(desk, "shown b", TEXT)
        self.answers(desk, "book b stretch x -5 1 0", "ok")
        self.answers(desk, "shown b", "stretch x -5 1 0")
        self.answers(desk, "book b ", "ok")
        self.answers(desk, "shown b", "")
        self.answers(desk, "book abcdefgh stretch abcdefgh -1000000000000 1000000000000 1000000000000", "ok")
        self.answers(desk, "shown abcdefgh", "stretch abcdefgh -1000000000000 1000000000000 1000000000000")
        whole = write_book(whole_book()).replace("\n", "; ")
        self.answers(desk, "book w " + whole, "ok")
        self.answers(desk, "shown w", whole)

    def test_drop_and_names(self):
        desk = Desk()
        self.answers(desk, "names", "-")
        for name in ("noon", "a", "zz", "b", "abcdefgh"):
            desk.say(f"book {name} ")
        self.answers(desk, "names", "a abcdefgh b noon zz")
        self.answers(desk, "drop b", "ok")
        self.answers(desk, "names", "a abcdefgh noon zz")
        self.refuses(Unknown, desk, "drop b")
        for name in ("a", "abcdefgh", "noon", "zz"):
            self.answers(desk, f"drop {name}", "ok")
        self.answers(desk, "names", "-")

    def test_words_of_rows_as_names(self):
        desk = Desk()
        for name in ("book", "names", "put", "stretch", "claim", "ok", "never"):
            self.answers(desk, f"book {name} stretch {name} 0 1 5", "ok")
            self.answers(desk, f"most {name} 1", "5")
            self.answers(desk, f"who {name} 1", f"{name} 0")

    def test_deeds(self):
        desk = desk_with(BOOK)
        self.answers(desk, "put b eve 9 12 7", "ok")
        self.answers(desk, "shown b", TEXT + "; stretch eve 9 12 7")
        self.answers(desk, "gone b noon", "ok")
        self.answers(desk, "shown b", "stretch dawn 0 5 10; stretch all 0 9 25; stretch eve 9 12 7")
        self.answers(desk, "worth b dawn 1000000000000", "ok")
        self.answers(desk, "worth b all 0", "ok")
        self.answers(desk, "slide b eve -1000000000000 1000000000000", "ok")
        self.answers(desk, "shown b", "stretch dawn 0 5 1000000000000; stretch all 0 9 0; "
                                      "stretch eve -1000000000000 1000000000000 7")
        for name in ("all", "dawn", "eve"):
            self.answers(desk, f"gone b {name}", "ok")
        self.answers(desk, "shown b", "")
        self.answers(desk, "put b dawn 0 1 5", "ok")
        self.answers(desk, "shown b", "stretch dawn 0 1 5")

    def test_a_deed_upon_one_book_only(self):
        desk = desk_with(BOOK, BOOK)
        desk.say("gone b dawn")
        self.answers(desk, "shown c", TEXT)
        desk.say("put c x 0 1 1")
        self.answers(desk, "shown b", "stretch noon 5 9 20; stretch all 0 9 25")

    def test_most_who_and_claim(self):
        desk = desk_with(BOOK, [])
        for benches, worth in ((0, 0), (1, 30), (2, 55), (3, 55), (24, 55)):
            self.answers(desk, f"most b {benches}", str(worth))
            self.answers(desk, f"most c {benches}", "0")
            self.answers(desk, f"who c {benches}", "-")
            self.answers(desk, f"claim c {benches} ", "0")
            self.answers(desk, f"claim b {benches} ", "55")
            self.answers(desk, f"claim c {benches} price 3 7; price 4 2", str(9 * benches))
        self.answers(desk, "who b 0", "-")
        self.answers(desk, "who b 1", "dawn 0; noon 0")

    def test_row_more_and_wanted(self):
        desk = desk_with(BOOK, [])
        self.answers(desk, "row b", "0 30 55")
        self.answers(desk, "row c", "0")
        for benches, more in ((0, 30), (1, 25), (2, 0), (3, 0), (23, 0)):
            self.answers(desk, f"more b {benches}", str(more))
            self.answers(desk, f"more c {benches}", "0")
        self.answers(desk, "wanted b 0 dawn", "never")
        self.answers(desk, "wanted b 0 all", "never")
        self.answers(desk, "wanted b 1 dawn", "5")
        self.answers(desk, "wanted b 1 noon", "15")
        self.answers(desk, "wanted b 1 all", "30")
        self.answers(desk, "wanted b 2 all", "0")
        self.answers(desk, "wanted b 24 dawn", "0")

    def test_who_of_a_choice_without_stretches(self):
        desk = desk_with([("x", 0, 5, 0)], [])
        self.answers(desk, "who b 0", "-")
        self.answers(desk, "who c 24", "-")

    def test_two_desks(self):
        one, other = desk_with(BOOK), Desk()
        self.answers(other, "names", "-")
        self.refuses(Unknown, other, "shown b")
        self.answers(one, "names", "b")

    def test_forty_names(self):
        desk = Desk()
        names = [one + other for one in "abcd" for other in NAMES[:10]]
        for name in names:
            self.answers(desk, f"book {name} " + TEXT, "ok")
        self.answers(desk, "names", " ".join(sorted(names)))
        self.refuses(TooMany, desk, "book z " + TEXT)
        self.refuses(TooMany, desk, "book z ")
        self.answers(desk, "book aa stretch x 0 1 5", "ok")
        self.answers(desk, "shown aa", "stretch x 0 1 5")
        self.no_text(desk, "book z x", 0)
        self.no_text(desk, "book z stretch x 0 1 5; ", 1)
        self.refuses(NoRow, desk, "book z")
        self.refuses(Unknown, desk, "shown z")
        self.answers(desk, "put aa y 0 1 5", "ok")
        self.answers(desk, "drop aj", "ok")
        self.answers(desk, "book z ", "ok")
        self.refuses(TooMany, desk, "book aj ")


class NoRows(DeskCase):
    def setUp(self):
        self.desk = desk_with(BOOK)

    def no_row(self, row):
        self.refuses(NoRow, self.desk, row)

    def test_no_text(self):
        for thing in [thing for thing in ODD_THINGS if not isinstance(thing, str)] + [
                0, 7, [], ["names"], ("names",), b"names", ["most", "b", 1]]:
            self.no_row(thing)

    def test_words_that_begin_no_row(self):
        for row in ("", " ", "x", "b", "name", "namess", "Names", "NAMES", "ok", "-", "undo", "undo b", "benches b 3",
                    "seats b 1", "stretch x 0 1 5", "books b ", "boo b ", "\t", "help", "price 0 1", "show b", "put",
                    "book", "claim", "most", "wanted", "none b"):
            self.no_row(row)

    def test_a_word_too_few(self):
        for row in WORDY:
            words = row.split(" ")
            for many in range(1, len(words)):
                self.no_row(" ".join(words[:many]))
            for left in range(len(words)):
                short = " ".join(words[:left] + words[left + 1:])
                if short not in WORDY:
                    self.no_row(short)
        for row in ("book", "book b", "claim", "claim b", "claim b 1"):
            self.no_row(row)

    def test_a_word_too_many(self):
        for row in WORDY:
            for more in ("x", "1", "b", "dawn", ";"):
                self.no_row(f"{row} {more}")
            self.no_row(f"{row} {row}")

    def test_blanks(self):
        for row in WORDY:
            self.no_row(" " + row)
            self.no_row(row + " ")
            self.no_row(row + "  ")
            for place in [place for place, sign in enumerate(row) if sign == " "]:
                self.no_row(row[:place] + " " + row[place:])
                self.no_row(row[:place] + "\t" + row[place + 1:])
                self.no_row(row[:place] + row[place + 1:])
        for row in (" book b ", "  book b ", "book  b ", " claim b 1 ", "claim  b 1 ", "claim b  1 ", "book\tb ",
                    "claim b  price 0 1", "book b\t", "book  stretch x 0 1 5", "claim b 1\t", "book  ", "claim  ",
                    "claim b  "):
            self.no_row(row)

    def test_a_line_feed_anywhere(self):
        for row, answer in ROWS + [("book b ", "ok"), ("claim b 1 ", "55")]:
            for place in range(len(row) + 1):
                self.no_row(row[:place] + "\n" + row[place:])
            for place in [place for place, sign in enumerate(row) if sign == " "]:
                self.no_row(row[:place] + "\n" + row[place + 1:])
        self.no_row("book c stretch x 0 1 5\nstretch y 0 1 5")
        self.no_row("\n")

    def test_names_that_are_none(self):
        for name in NO_NAMES:
            for row, answer in ROWS:
                if row != "names":
                    words = row.split(" ")
                    self.no_row(" ".join(words[:1] + [name] + words[2:]))
            for row in WITH_STRETCH:
                self.no_row(row.format(name))

    def test_names_of_eight_letters(self):
        self.answers(self.desk, "book abcdefgh ", "ok")
        self.refuses(Unknown, self.desk, "shown abcdefgi")
        self.refuses(NoRow, self.desk, "shown abcdefghi")
        self.refuses(NoRow, self.desk, "book abcdefghi ")

    def test_numbers_written_otherwise(self):
        for row in WITH_NUMBER + WITH_BENCHES + ["more b {0}"]:
            self.assertIsInstance(deepcopy(self.desk).say(row.format(7)), str)
            for number in NO_NUMBERS:
                self.no_row(row.format(number))

    def test_numbers_of_fourteen_and_fifteen_figures(self):
        for row in WITH_NUMBER:
            for sign in ("", "-"):
                self.refuses(NoStretch, self.desk, row.format(sign + "1" + "0" * 13))
                self.refuses(NoStretch, self.desk, row.format(sign + "9" * 14))
                for figures in (15, 16, 60, 1000):
                    self.no_row(row.format(sign + "1" * figures))
        for row in WITH_BENCHES + ["more b {0}"]:
            for figures in (14, 15, 60, 1000):
                self.no_row(row.format("1" * figures))

    def test_benches(self):
        for row in WITH_BENCHES + ["more b {0}"]:
            for benches in ("-1", "25", "26", "100", "-24", "024", "24.0"):
                self.no_row(row.format(benches))
        for row in WITH_BENCHES:
            self.assertIsInstance(self.desk.say(row.format(24)), str)
            self.assertIsInstance(self.desk.say(row.format(0)), str)
        self.assertIsInstance(self.desk.say("more b 23"), str)
        self.assertIsInstance(self.desk.say("more b 0"), str)
        self.no_row("more b 24")

    def test_no_row_is_a_value_error(self):
        self.assertRaises(ValueError, self.desk.say, None)


class Texts(DeskCase):
    """TEXT is the stages' matter, but for where it stands."""

    def setUp(self):
        self.desk = desk_with(BOOK)

    def test_without_signs(self):
        self.answers(self.desk, "book c ", "ok")
        self.answers(self.desk, "shown c", "")
        self.answers(self.desk, "claim b 1 ", "55")

    def test_blanks_in_it(self):
        for text, number in ((" ", 0), ("  ", 0), (" stretch x 0 1 5", 0), ("stretch x 0 1 5 ", 0),
                             ("stretch  x 0 1 5", 0), ("stretch x  0 1 5", 0), ("stretch x 0 1 5;  stretch y 0 1 5", 1),
                             ("stretch x 0 1 5 ; stretch y 0 1 5", 0), ("stretch x 0 1 5; stretch y 0 1 5 ", 1),
                             ("stretch x 0 1 5; stretch y 0  1 5; stretch z 0 1 5", 1)):
            self.no_text(self.desk, "book c " + text, number)
            self.no_text(self.desk, "book b " + text, number)
        for text, number in ((" ", 0), (" price 0 1", 0), ("price 0 1 ", 0), ("price  0 1", 0),
                             ("price 0 1;  price 1 1", 1), ("price 0 1; price 1 1 ", 1)):
            self.no_text(self.desk, "claim b 1 " + text, number)

    def test_marks_for_line_feeds(self):
        for text, number in (("stretch x 0 1 5;stretch y 0 1 5", 0), ("stretch x 0 1 5;", 0), ("stretch x 0 1 5; ", 1),
                             ("; stretch x 0 1 5", 0), (";", 0), ("; ", 0), (";; ", 0), ("stretch x 0 1 5;; ", 0),
                             ("stretch x 0 1 5; ; stretch y 0 1 5", 1), ("stretch x 0 1 5; stretch y 0 1 5;", 1)):
            self.no_text(self.desk, "book c " + text, number)
        for text, number in (("price 0 1;price 1 1", 0), ("price 0 1; ", 1), ("; ", 0), ("price 0 1;", 0)):
            self.no_text(self.desk, "claim b 1 " + text, number)

    def test_its_numbers_are_its_own(self):
        for number in ("07", "-0", "+7", "7.0", "x", "1" * 15, "1" * 60, "1" * 1000, "1" * 14, "-" + "1" * 15):
            self.no_text(self.desk, f"book c stretch x -9 9 5; stretch y {number} 90000 5", 1)
            self.no_text(self.desk, f"book c stretch x 0 1 {number}", 0)
            self.no_text(self.desk, f"claim b 1 price {number} 5", 0)
        self.answers(self.desk, "claim b 1 price 0 10000000000000", str(10 ** 13 + 20))
        self.no_text(self.desk, "claim b 1 price 0 10000000000001", 0)

    def test_what_is_no_book_or_paper(self):
        for text, number in (("x", 0), ("stretch x 0 1 5; stretch x 0 1 5", 1), ("stretch x 1 1 5", 0),
                             ("price 0 1", 0), ("stretch X 0 1 5", 0), ("stretch x 0 1 5; price 0 1", 1), ("\t", 0),
                             ("b", 0)):
            self.no_text(self.desk, "book c " + text, number)
        for text, number in (("x", 0), ("price 0 1; price 0 1", 1), ("price 0 0", 0), ("stretch x 0 1 5", 0),
                             (write_paper([(moment, 1) for moment in range(49)]).replace("\n", "; "), 48)):
            self.no_text(self.desk, "claim b 1 " + text, number)
        whole = write_book(whole_book()).replace("\n", "; ")
        self.no_text(self.desk, f"book c {whole}; stretch z 0 1 5", 24)

    def test_a_book_stays_where_another_one_is_none(self):
        self.no_text(self.desk, "book b x", 0)
        self.answers(self.desk, "shown b", TEXT)


class Order(DeskCase):
    """What is refused first, where several are due."""

    def setUp(self):
        self.desk = desk_with(BOOK)

    def test_no_row_ahead_of_unknown(self):
        for row in ("shown zz ", "drop zz x", "most zz 25", "most zz x", "who zz -1", "claim zz 25 ", "claim zz 1",
                    "more zz 24", "wanted zz 25 dawn", "wanted zz 1 D", "put zz D 0 1 5", "put zz x 00 1 5",
                    "worth zz dawn +5", "slide zz dawn 0", "gone zz 7", "worth b eve x", "slide b eve 0 1.0",
                    "wanted b 25 eve", "gone b eve x"):
            self.refuses(NoRow, self.desk, row)

    def test_unknown_of_name(self):
        for row, answer in ROWS:
            if row.startswith("book") or row == "names":
                continue
            words = row.split(" ")
            for name in ("c", "bb", "abcdefgh", "dawn"):
                self.refuses(Unknown, self.desk, " ".join(words[:1] + [name] + words[2:]))
                self.refuses(Unknown, Desk(), " ".join(words[:1] + [name] + words[2:]))

    def test_unknown_of_name_ahead_of_what_the_stages_refuse(self):
        for row in ("claim c 1 x", "claim c 1  ", "put c dawn 5 5 5", "worth c dawn -1", "slide c dawn 5 5",
                    "put c dawn 0 1 99999999999999"):
            self.refuses(Unknown, self.desk, row)

    def test_unknown_of_stretch(self):
        for row in ("gone b {0}", "worth b {0} 5", "slide b {0} 0 1", "wanted b 1 {0}", "wanted b 0 {0}",
                    "wanted b 24 {0}"):
            for name in ("eve", "daw", "dawns", "b", "abcdefgh"):
                self.refuses(Unknown, self.desk, row.format(name))

    def test_unknown_of_stretch_ahead_of_no_stretch(self):
        for row in ("worth b eve -1", "worth b eve 99999999999999", "slide b eve 5 5", "slide b eve 9 0"):
            self.refuses(Unknown, self.desk, row)

    def test_no_stretch(self):
        for row in ("put b dawn 0 1 5", "put b all 100 101 5", "put b eve 5 5 5", "put b eve 6 5 5", "put b eve 0 1 -1",
                    "put b eve 0 1 1000000000001", "put b eve 0 1000000000001 5", "put b eve -1000000000001 1 5",
                    "worth b dawn -1", "worth b all 1000000000001", "slide b dawn 5 5", "slide b noon 6 5",
                    "slide b all 0 1000000000001", "slide b all -1000000000001 0"):
            self.refuses(NoStretch, self.desk, row)

    def test_no_stretch_of_a_full_book(self):
        desk = desk_with(whole_book())
        self.refuses(NoStretch, desk, "put b z 0 1 5")
        desk.say("gone b c")
        self.answers(desk, "put b z 0 1 5", "ok")
        self.refuses(NoStretch, desk, "put b c 0 1 5")

    def test_what_is_refused_may_be_said_right(self):
        self.refuses(NoStretch, self.desk, "put b dawn 0 1 5")
        self.answers(self.desk, "gone b dawn", "ok")
        self.answers(self.desk, "put b dawn 0 1 5", "ok")
        self.answers(self.desk, "shown b", "stretch noon 5 9 20; stretch all 0 9 25; stretch dawn 0 1 5")


class OverTheWhole(DeskCase):
    """What the desk answers is what the stages tell; a keeper tells the same behind the same deeds."""

    def who_is_right(self, desk, name, book, benches, worth):
        told = desk.say(f"who {name} {benches}")
        pairs = [pair.split(" ") for pair in told.split("; ")] if told != "-" else []
        names = [stretch[0] for stretch in book]
        choice = [names.index(pair[0]) for pair in pairs]
        self.assertTrue(choice_by_hand(book, benches, choice), told)
        self.assertEqual(worth_by_hand(book, choice), worth)
        seats = [int(pair[1]) for pair in pairs]
        self.assertEqual([str(seat) for seat in seats], [pair[1] for pair in pairs])
        self.assertTrue(seats_by_hand(book, choice, benches, seats), told)
        mine = most_of(book, benches)[1]
        self.assertTrue(seats_by_hand(book, mine, benches, seats_for(book, mine)))

    def as_the_stages(self, desk, name, book, paper):
        self.assert_alike(read_book(desk.say(f"shown {name}").replace("; ", "\n")), book)
        row = row_of(book)
        self.answers(desk, f"row {name}", " ".join(str(worth) for worth, choice in row[1]))
        text = write_paper(paper).replace("\n", "; ")
        for benches in (0, 1, 2, 5, 24):
            worth = most_of(book, benches)[0]
            self.assertEqual(most_by(row, benches), worth)
            self.answers(desk, f"most {name} {benches}", str(worth))
            self.who_is_right(desk, name, book, benches, worth)
            self.answers(desk, f"claim {name} {benches} {text}", str(claim(book, benches, paper)))
            self.assertGreaterEqual(claim(book, benches, paper), worth)
            if benches < 24:
                self.assertEqual(bench_more(book, benches)[0], more_by(row, benches))
                self.answers(desk, f"more {name} {benches}", str(more_by(row, benches)))
            for i, stretch in enumerate(book[:4]):
                told = wanted(book, benches, i)
                if told is not None:
                    rest = rest_of_book(book, i)
                    least = most_of(rest, benches)[0] - most_within(rest, beside(book, benches, i))[0]
                    self.assertEqual(told[1], least)
                self.answers(desk, f"wanted {name} {benches} {stretch[0]}", "never" if told is None else str(told[1]))

    def test_drawn_books(self):
        draw = random.Random(231)
        desk = Desk()
        for _ in range(40):
            book, paper = drawn_book(draw), drawn_paper(draw)
            self.answers(desk, "book b " + write_book(book).replace("\n", "; "), "ok")
            self.as_the_stages(desk, "b", book, paper)
            for benches in (0, 1, 2, 3):
                self.answers(desk, f"most b {benches}", str(most_by_hand(book, benches)))

    def test_far_books(self):
        draw = random.Random(232)
        for _ in range(5):
            book = drawn_far_book(draw)
            desk = desk_with(book)
            self.as_the_stages(desk, "b", book, [(0, FAR), (FAR - 1, 10 * FAR)])

    def test_a_keeper_and_a_desk_behind_the_same_deeds(self):
        draw = random.Random(233)
        for _ in range(12):
            book = drawn_book(draw)
            desk, keeper = desk_with(book), Keeper(book, 2)
            for _ in range(25):
                self.same_deed(draw, desk, keeper)
                self.assert_alike(desk.say("shown b"), write_book(keeper.book_now()).replace("\n", "; "))
                self.answers(desk, f"most b {keeper.benches_now()}", str(keeper.worth_now()))
                self.answers(desk, "row b", " ".join(str(worth) for worth, choice in keeper.row_now()[1]))
                self.who_is_right(desk, "b", keeper.book_now(), keeper.benches_now(), keeper.worth_now())
                text = write_paper(keeper.paper_now()).replace("\n", "; ")
                self.answers(desk, f"claim b {keeper.benches_now()} {text}", str(keeper.worth_now()))
            with self.assertRaises(NoUndo):
                for _ in range(26):
                    keeper.undo()

    def same_deed(self, draw, desk, keeper):
        """One deed, by names and numbers that may be wrong, said to the desk and done by the keeper."""
        name = draw.choice(NAMES[:8])
        begin, end, worth = draw.randint(-9, 9), draw.randint(-5, 15), draw.randint(-1, 9)
        row, deed = draw.choice([
            (f"put b {name} {begin} {end} {worth}", lambda: keeper.put((name, begin, end, worth))),
            (f"gone b {name}", lambda: keeper.gone(name)),
            (f"worth b {name} {worth}", lambda: keeper.set_worth(name, worth)),
            (f"slide b {name} {begin} {end}", lambda: keeper.slide(name, begin, end))])
        outcomes = []
        for action in (lambda: desk.say(row), deed):
            try:
                self.assertIn(action(), ("ok", None))
                outcomes.append(None)
            except (Unknown, NoStretch) as refusal:
                outcomes.append(type(refusal))
        self.assertEqual(outcomes[0], outcomes[1], row)


if __name__ == "__main__":
    unittest.main()
