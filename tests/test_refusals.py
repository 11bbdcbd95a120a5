"""Each refusal at each place where it is told, and which of two comes first."""

import unittest

from listpost.answers import Cut, Named, Shut, Way
from listpost.books import people, reached, rings
from listpost.changes import answer, apart, drawn_in, split_off
from listpost.errors import BadBook, BadName, BadNames
from listpost.post import Post
from listpost.texts import written
from listpost.ways import cut, why
from tests import plain

GOOD = [("a", ["p"], [], None), ("b", ["a", "q"], ["p"], "a"), ("c", [], [], "c")]

TAKE_LETTERS = {
    "reached": reached,
    "Way.shows": lambda book, sender, names: Way(["p"]).shows(book, sender, names, "p"),
    "Shut.shows": lambda book, sender, names: Shut([]).shows(book, sender, names, "p"),
    "Cut.shows": lambda book, sender, names: Cut([], []).shows(book, sender, names, "p"),
    "Named.shows": lambda book, sender, names: Named().shows(book, sender, names, "p"),
    "why": lambda book, sender, names: why(book, sender, names, "p"),
    "cut": lambda book, sender, names: cut(book, sender, names, "p"),
    "Post.send": lambda book, sender, names: Post(book).send(sender, names),
}

TAKE_BOOKS = {
    "people": lambda book: people(book, "a"),
    "rings": rings,
    "apart, one": lambda book: apart(book, []),
    "apart, other": lambda book: apart([], book),
    "drawn_in": lambda book: drawn_in(book, "a"),
    "split_off": lambda book: split_off(book, "a", ["p"], "n"),
    "written": written,
    "Post": Post,
    **{name: (lambda book, ask=ask: ask(book, "p", ["a"])) for name, ask in TAKE_LETTERS.items()},
}


class BadBookTest(unittest.TestCase):
    def refused(self, book, row):
        for name, ask in TAKE_BOOKS.items():
            with self.subTest(ask=name, book=book):
                with self.assertRaises(BadBook) as caught:
                    ask(book)
                self.assertEqual(caught.exception.row, row)

    def test_no_list(self):
        for book in plain.NO_BOOKS:
            self.refused(book, 0)

    def test_wrong_entry_alone(self):
        for entry in plain.wrong_entries():
            self.refused([entry], 0)

    def test_wrong_entry_first_in_the_middle_and_last(self):
        for entry in plain.wrong_entries():
            for row in range(4):
                with self.subTest(entry=entry, row=row):
                    with self.assertRaises(BadBook) as caught:
                        rings([*GOOD[:row], entry, *GOOD[row:]])
                    self.assertEqual(caught.exception.row, row)

    def test_wrong_entry_in_the_middle_wherever_a_book_is_handed_in(self):
        self.refused([*GOOD[:2], ("z", ["p", "p"], [], None), GOOD[2]], 2)

    def test_one_name_twice(self):
        self.refused([("a", [], [], None), ("a", [], [], None)], 1)
        self.refused([*GOOD, ("b", [], [], None)], 3)
        self.refused([*GOOD[:2], ("a", [], [], None), *GOOD[2:]], 2)

    def test_first_of_several(self):
        self.refused([GOOD[0], GOOD[0], None, "x"], 1)
        self.refused([GOOD[0], None, GOOD[0]], 1)
        self.refused([("a", ["p", "p"], [], None), ("a", [], [], None)], 0)

    def test_twice_among_members_or_left_at_each_place(self):
        for names in (["p", "p", "q", "r"], ["q", "p", "p", "r"], ["q", "r", "p", "p"], ["p", "q", "r", "p"]):
            self.refused([("a", names, [], None)], 0)
            self.refused([("a", [], names, None)], 0)

    def test_wrong_name_at_each_place_among_members_and_left(self):
        for thing in plain.NO_NAMES:
            for names in ([thing, "p", "q"], ["p", thing, "q"], ["p", "q", thing]):
                for entry in (("z", names, [], None), ("z", [], names, None)):
                    with self.subTest(entry=entry):
                        with self.assertRaises(BadBook) as caught:
                            people([*GOOD, entry], "a")
                        self.assertEqual(caught.exception.row, 3)

    def test_one_name_as_member_and_left_is_no_fault(self):
        self.assertEqual(rings([("a", ["p", "a"], ["p", "a"], "a")]), [["a"]])

    def test_ahead_of_all_else(self):
        for thing in plain.NO_NAMES:
            with self.subTest(thing=thing):
                self.assertRaises(BadBook, people, [None], thing)
                self.assertRaises(BadBook, people, (), thing)
        for name, ask in TAKE_LETTERS.items():
            with self.subTest(ask=name):
                self.assertRaises(BadBook, ask, [*GOOD, 1], None, None)
                self.assertRaises(BadBook, ask, None, "p", [])


class BadNameTest(unittest.TestCase):
    def test_people(self):
        for thing in plain.NO_NAMES:
            with self.subTest(thing=thing):
                self.assertRaises(BadName, people, GOOD, thing)
                self.assertRaises(BadName, people, [], thing)

    def test_sender(self):
        for thing in plain.NO_NAMES:
            for name, ask in TAKE_LETTERS.items():
                with self.subTest(ask=name, thing=thing):
                    self.assertRaises(BadName, ask, GOOD, thing, ["a"])

    def test_sender_ahead_of_names(self):
        for thing in plain.NO_LETTERS_NAMES:
            for name, ask in TAKE_LETTERS.items():
                with self.subTest(ask=name, thing=thing):
                    self.assertRaises(BadName, ask, GOOD, "", thing)


class BadNamesTest(unittest.TestCase):
    def test_names(self):
        for thing in plain.NO_LETTERS_NAMES:
            for name, ask in TAKE_LETTERS.items():
                with self.subTest(ask=name, thing=thing):
                    self.assertRaises(BadNames, ask, GOOD, "p", thing)

    def test_at_each_place(self):
        for thing in plain.NO_NAMES:
            for names in ([thing], [thing, "a", "b"], ["a", thing, "b"], ["a", "b", thing]):
                with self.subTest(names=names):
                    self.assertRaises(BadNames, reached, GOOD, "p", names)
                    self.assertRaises(BadNames, answer, "p", names, "q")

    def test_twice_at_each_place(self):
        for names in (["a", "a"], ["a", "a", "b"], ["b", "a", "a"], ["a", "b", "a"]):
            with self.subTest(names=names):
                self.assertRaises(BadNames, reached, GOOD, "p", names)


class NamesThatAreTakenTest(unittest.TestCase):
    def test_each_letter_and_each_length(self):
        letters = [chr(code) for code in range(ord("a"), ord("z") + 1)]
        lengths = ["m" * many for many in range(2, 21)]
        self.assertEqual(people([("list", letters + lengths, [], None)], "list"), sorted(letters) + lengths)
        self.assertEqual(reached([], "z" * 20, letters + lengths)[0], letters + lengths)


if __name__ == "__main__":
    unittest.main()
