"""The interface of ../shared/DOC.md: each name, by its module and with its arguments."""

import importlib
import inspect
import unittest

FUNCTIONS = {
    "names": ["is_whole(thing)", "is_name(thing)"],
    "books": ["is_stretch(thing)", "is_over(stretch, moment)", "meet(one, other)", "look_at_book(thing)",
              "moments_of(book)", "lying_over(book, moment)"],
    "choices": ["is_choice(book, benches, thing)", "worth_of(book, some)"],
    "loads": ["load_at(book, some, moment)", "loads_of(book, some)", "crowd_of(book, some)"],
    "seats": ["are_seats(book, some, benches, thing)", "seats_for(book, some)"],
    "openings": ["late_seats(book, some, openings)"],
    "papers": ["is_paper(thing)", "toll_of(stretch, paper)", "rest_of(stretch, paper)", "claim(book, benches, paper)"],
    "slack": ["slack_of(book, benches, paper, choice)"],
    "roads": [],
    "most": ["most_of(book, benches)", "held_against(book, benches, choice)"],
    "rows": ["row_of(book)", "most_by(row, benches)", "more_by(row, benches)"],
    "rowlook": ["lets_row(book, thing)"],
    "bounds": ["are_bounds(thing)", "bound_at(bounds, moment)", "keeps(book, bounds, some)", "opened(openings)"],
    "bounded": ["claim_within(book, bounds, paper)", "most_within(book, bounds)"],
    "wanted": ["bench_more(book, benches)", "rest_of_book(book, i)", "beside(book, benches, i)",
               "wanted(book, benches, i)"],
    "wantlook": ["lets_wanted(book, benches, i, thing)"],
    "rings": ["look_at_ring(thing)", "is_over_ring(ring, i, moment)", "ring_loads(ring, some)",
              "is_ring_choice(ring, benches, thing)", "is_ring_paper(ring, thing)", "ring_claim(ring, benches, paper)"],
    "ringtrees": ["tree_claim(ring, benches, thing)"],
    "ringmost": ["ring_most(ring, benches)"],
    "wishes": ["are_wishes(book, thing)", "is_seating(book, wishes, thing)", "seating_worth(book, seating)",
               "is_bench_paper(thing)", "bench_claim(book, wishes, paper)"],
    "wishtrees": ["wish_claim(book, wishes, thing)"],
    "seatings": ["whole_count(wishes)", "most_seated(book, wishes)"],
    "turning": ["turned(book)", "turned_paper(paper)", "moved(book, by)", "moved_paper(paper, by)",
                "stretched(book, factor)", "stretched_paper(paper, factor)", "dearer(book, factor)",
                "dearer_paper(paper, factor)"],
    "writer": ["write_book(book)", "write_paper(paper)", "write_some(book, some)", "write_bounds(bounds)"],
    "reader": ["read_book(text)", "read_paper(text)", "read_some(book, text)", "read_bounds(text)"],
}
CLASSES = {
    "keepers": ("Keeper(book, benches)", [
        "put(self, stretch)", "gone(self, name)", "set_worth(self, name, worth)", "slide(self, name, begin, end)",
        "set_benches(self, benches)", "undo(self)", "book_now(self)", "benches_now(self)", "worth_now(self)",
        "choice_now(self)", "paper_now(self)", "row_now(self)"]),
    "desk": ("Desk()", ["say(self, row)"]),
}


def told_of(thing, name):
    return name + str(inspect.signature(thing))


class Interface(unittest.TestCase):
    def test_functions(self):
        for module, functions in FUNCTIONS.items():
            told = importlib.import_module(f"benchworth.{module}")
            for function in functions:
                name = function.partition("(")[0]
                self.assertEqual(told_of(getattr(told, name), name), function)
                self.assertEqual(getattr(told, name).__module__, f"benchworth.{module}")

    def test_classes(self):
        for module, (made, methods) in CLASSES.items():
            name = made.partition("(")[0]
            kind = getattr(importlib.import_module(f"benchworth.{module}"), name)
            self.assertEqual(told_of(kind, name), made)
            for method in methods:
                word = method.partition("(")[0]
                self.assertEqual(told_of(vars(kind)[word], word), method)


if __name__ == "__main__":
    unittest.main()
