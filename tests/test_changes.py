"""Lists drawn in and split off, and answers to all."""

import itertools
import unittest

from listpost.books import people, reached
from listpost.changes import answer, drawn_in, split_off
from listpost.errors import BadBook, BadName, BadNames, NoList, NoMember, NoOne, NotFresh, NotPlain
from tests import plain

NO_MEMBERS = plain.NO_LETTERS_NAMES


def alike_elsewhere(test, one, other, but):
    """Letters to all names but one reach the same people by both books."""
    for name in plain.all_names(one + other, ["nobody"]):
        if name != but:
            for sender in plain.all_names(one + other, ["nobody"]):
                if sender != but:
                    test.assertEqual(reached(one, sender, [name])[0], reached(other, sender, [name])[0])


class DrawnInTest(unittest.TestCase):
    def test_members_come_to_its_place(self):
        for at in range(4):
            members = ["p", "q", "r"]
            members.insert(at, "b")
            book = [("a", members, ["x"], "p"), ("b", ["y", "z"], [], None)]
            told = ["p", "q", "r"]
            told[at:at] = ["y", "z"]
            self.assertEqual(drawn_in(book, "b"), [("a", told, ["x"], "p")])

    def test_in_each_list_of_which_it_is_a_member(self):
        book = [("a", ["b", "p"], ["b"], None), ("b", ["z", "y"], [], None), ("c", ["p", "b"], [], "a"),
                ("d", ["q"], ["q", "r"], None)]
        self.assertEqual(drawn_in(book, "b"), [("a", ["z", "y", "p"], ["b"], None), ("c", ["p", "z", "y"], [], "a"),
                                               ("d", ["q"], ["q", "r"], None)])

    def test_those_that_are_members_already_keep_their_places(self):
        book = [("a", ["p", "b", "q"], [], None), ("b", ["q", "x", "p", "y"], [], None)]
        self.assertEqual(drawn_in(book, "b"), [("a", ["p", "x", "y", "q"], [], None)])
        book = [("a", ["b", "p"], [], None), ("b", ["p"], [], None)]
        self.assertEqual(drawn_in(book, "b"), [("a", ["p"], [], None)])

    def test_own_member(self):
        book = [("b", ["p", "b", "q"], [], None), ("a", ["x", "b"], [], None)]
        self.assertEqual(drawn_in(book, "b"), [("a", ["x", "p", "q"], [], None)])
        self.assertEqual(drawn_in([("b", ["b"], [], None)], "b"), [])

    def test_ring(self):
        book = [("a", ["b", "p"], [], None), ("b", ["q", "a"], [], None)]
        self.assertEqual(drawn_in(book, "b"), [("a", ["q", "a", "p"], [], None)])
        book = [("a", ["a", "b"], [], None), ("b", ["q", "a"], [], None)]
        self.assertEqual(drawn_in(book, "b"), [("a", ["a", "q"], [], None)])

    def test_no_members(self):
        self.assertEqual(drawn_in([("a", ["p", "b"], [], None), ("b", [], [], None)], "b"), [("a", ["p"], [], None)])

    def test_member_of_none(self):
        self.assertEqual(drawn_in([("b", ["p"], [], None), ("a", ["q"], ["b"], "q")], "b"), [("a", ["q"], ["b"], "q")])
        self.assertEqual(drawn_in([("b", ["p"], [], None)], "b"), [])

    def test_lists_within_it_stay_lists(self):
        book = [("a", ["b"], [], None), ("b", ["c"], [], None), ("c", ["p"], ["q"], "b" * 2)]
        self.assertEqual(drawn_in(book, "b"), [("a", ["c"], [], None), ("c", ["p"], ["q"], "bb")])

    def test_not_plain(self):
        for book in (
            [("b", ["p"], ["q"], None)], [("b", ["p"], [], "q")], [("b", ["p"], [], "b")], [("b", ["p"], ["b"], None)],
            [("a", [], [], "b"), ("b", ["p"], [], None)], [("b", ["p"], [], None), ("a", ["b"], [], "b")],
        ):
            with self.subTest(book=book):
                self.assertRaises(NotPlain, drawn_in, book, "b")

    def test_letters_to_other_names_reach_the_same_people(self):
        drawn = 0
        for book, sender, names in plain.random_cases(51, 150):
            for name in [entry[0] for entry in book]:
                plainly = not any(gate == name or (other == name and (left or gate)) for other, _, left, gate in book)
                with self.subTest(book=book, name=name):
                    if plainly:
                        drawn += 1
                        alike_elsewhere(self, book, drawn_in(book, name), name)
                    else:
                        self.assertRaises(NotPlain, drawn_in, book, name)
        self.assertGreater(drawn, 50)

    def test_refusals(self):
        book = [("a", ["b"], ["p"], "p"), ("b", [], [], None)]
        for thing in plain.NO_NAMES:
            with self.subTest(thing=thing):
                self.assertRaises(BadName, drawn_in, book, thing)
                self.assertRaises(BadBook, drawn_in, [*book, None], thing)
        for name in ("p", "c", "nobody", "aa"):
            self.assertRaises(NoList, drawn_in, book, name)
        self.assertRaises(NoList, drawn_in, [], "a")
        self.assertRaises(NotPlain, drawn_in, book, "a")
        self.assertRaises(BadBook, drawn_in, [*book, ("a", [], [], None)], "a")
        # A gate that is no list's is nothing that could be drawn in.
        self.assertRaises(NoList, drawn_in, [("a", [], [], "g")], "g")


class SplitOffTest(unittest.TestCase):
    def test_in_the_turn_in_which_they_stood(self):
        book = [("z", ["a"], [], None), ("a", ["p", "q", "r", "s", "t"], ["x"], "q"), ("y", [], ["p"], None)]
        for members in itertools.permutations(["q", "s", "t"]):
            self.assertEqual(split_off(book, "a", list(members), "new"), [
                ("z", ["a"], [], None), ("a", ["p", "new", "r"], ["x"], "q"), ("new", ["q", "s", "t"], [], None),
                ("y", [], ["p"], None)])

    def test_at_the_place_of_the_first(self):
        book = [("a", ["p", "q", "r"], [], None)]
        self.assertEqual(split_off(book, "a", ["p"], "n"), [("a", ["n", "q", "r"], [], None), ("n", ["p"], [], None)])
        self.assertEqual(split_off(book, "a", ["q"], "n"), [("a", ["p", "n", "r"], [], None), ("n", ["q"], [], None)])
        self.assertEqual(split_off(book, "a", ["r"], "n"), [("a", ["p", "q", "n"], [], None), ("n", ["r"], [], None)])
        self.assertEqual(split_off(book, "a", ["r", "p"], "n"),
                         [("a", ["n", "q"], [], None), ("n", ["p", "r"], [], None)])
        self.assertEqual(split_off(book, "a", ["r", "q", "p"], "n"),
                         [("a", ["n"], [], None), ("n", ["p", "q", "r"], [], None)])

    def test_own_member_split_off(self):
        self.assertEqual(split_off([("a", ["p", "a"], [], None)], "a", ["a"], "n"),
                         [("a", ["p", "n"], [], None), ("n", ["a"], [], None)])

    def test_lists_split_off(self):
        book = [("a", ["b", "p", "c"], [], None), ("b", ["a"], [], None), ("c", ["q"], ["q"], "b")]
        self.assertEqual(split_off(book, "a", ["c", "b"], "n"), [
            ("a", ["n", "p"], [], None), ("n", ["b", "c"], [], None), ("b", ["a"], [], None), ("c", ["q"], ["q"], "b")])

    def test_other_lists_keep_their_members(self):
        book = [("b", ["p", "q"], [], None), ("a", ["p", "q"], [], None)]
        self.assertEqual(split_off(book, "a", ["p"], "n"),
                         [("b", ["p", "q"], [], None), ("a", ["n", "q"], [], None), ("n", ["p"], [], None)])

    def test_split_off_and_drawn_in_again(self):
        for book, sender, names in plain.random_cases(52, 150):
            for name, members, left, gate in book:
                for many in range(1, len(members) + 1):
                    for first in range(len(members) - many + 1):
                        split = split_off(book, name, members[first:first + many][::-1], "new")
                        with self.subTest(book=book, name=name, split=split):
                            self.assertEqual(drawn_in(split, "new"), book)

    def test_letters_to_other_names_reach_the_same_people(self):
        chance = plain.random.Random(53)
        for book, sender, names in plain.random_cases(54, 80):
            for name, members, left, gate in book:
                if members:
                    some = chance.sample(members, chance.randint(1, len(members)))
                    with self.subTest(book=book, name=name, some=some):
                        alike_elsewhere(self, book, split_off(book, name, some, "new"), "new")

    def test_refusals_each_alone(self):
        book = [("a", ["p", "b"], ["l"], "g"), ("b", ["q"], [], None)]
        for thing in plain.NO_NAMES:
            with self.subTest(thing=thing):
                self.assertRaises(BadName, split_off, book, thing, ["p"], "n")
                self.assertRaises(BadName, split_off, book, "a", ["p"], thing)
        for name in ("p", "g", "l", "c", "n"):
            self.assertRaises(NoList, split_off, book, name, ["p"], "n")
        for thing in NO_MEMBERS:
            with self.subTest(thing=thing):
                self.assertRaises(BadNames, split_off, book, "a", thing, "n")
        for members in (["q"], ["a"], ["p", "q"], ["q", "p"], ["l"], ["g"], ["p", "b", "n"], ["x"]):
            self.assertRaises(NoMember, split_off, book, "a", members, "n")
        for fresh in ("a", "b", "p", "q", "l", "g"):
            self.assertRaises(NotFresh, split_off, book, "a", ["p"], fresh)

    def test_refusals_in_their_turn(self):
        book = [("a", ["p", "b"], ["l"], "g"), ("b", ["q"], [], None)]
        self.assertRaises(BadBook, split_off, [*book, 1], "", [], "")
        self.assertRaises(BadBook, split_off, None, None, None, None)
        for fresh in ("", None, "a", "n"):
            for members in ([], None, ["x"], ["p"]):
                self.assertRaises(BadName, split_off, book, "", members, fresh)
                self.assertRaises(NoList, split_off, book, "p", members, fresh)
            self.assertRaises(BadNames, split_off, book, "a", [], fresh)
            self.assertRaises(BadNames, split_off, book, "a", ["x", "x"], fresh)
            self.assertRaises(BadNames, split_off, book, "a", ["x", 1], fresh)
            self.assertRaises(NoMember, split_off, book, "a", ["x"], fresh)
        self.assertRaises(BadName, split_off, book, "a", ["p"], "A")
        self.assertRaises(NotFresh, split_off, book, "a", ["p"], "a")

    def test_people_of_the_new_list(self):
        book = [("a", ["p", "b", "r"], ["p"], None), ("b", ["q"], [], None)]
        self.assertEqual(people(split_off(book, "a", ["b", "p"], "n"), "n"), ["p", "q"])


class AnswerTest(unittest.TestCase):
    def test_sender_first_then_the_names_in_their_turn(self):
        self.assertEqual(answer("s", ["c", "a", "b"], "p"), ["s", "c", "a", "b"])
        self.assertEqual(answer("s", ["zz", "y"], "p"), ["s", "zz", "y"])

    def test_none_twice(self):
        self.assertEqual(answer("s", ["a", "s", "b"], "p"), ["s", "a", "b"])
        self.assertEqual(answer("s", ["s"], "p"), ["s"])

    def test_not_to_who_answers(self):
        self.assertEqual(answer("s", ["a", "p", "b"], "p"), ["s", "a", "b"])
        self.assertEqual(answer("p", ["a", "b"], "p"), ["a", "b"])
        self.assertEqual(answer("p", ["a", "p", "b"], "p"), ["a", "b"])
        self.assertEqual(answer("s", ["p"], "p"), ["s"])

    def test_no_one(self):
        self.assertRaises(NoOne, answer, "p", ["p"], "p")

    def test_refusals(self):
        for thing in plain.NO_NAMES:
            with self.subTest(thing=thing):
                self.assertRaises(BadName, answer, thing, ["a"], "p")
                self.assertRaises(BadName, answer, thing, [], None)
                self.assertRaises(BadName, answer, "s", ["a"], thing)
        for thing in NO_MEMBERS:
            with self.subTest(thing=thing):
                self.assertRaises(BadNames, answer, "s", thing, "p")
                self.assertRaises(BadNames, answer, "s", thing, None)
                self.assertRaises(BadName, answer, None, thing, "p")


if __name__ == "__main__":
    unittest.main()
