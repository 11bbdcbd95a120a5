"""The answers, and whether they show what they tell."""

import copy
import itertools
import unittest

from listpost.answers import Answer, Cut, Named, Shut, Way
from tests import plain


class MakingTest(unittest.TestCase):
    def test_classes(self):
        for kind in (Way, Shut, Cut, Named):
            self.assertEqual(kind.__bases__, (Answer,))
            self.assertIn("shows", vars(kind))

    def test_fields(self):
        self.assertEqual(Way(["a", "p"]).names, ["a", "p"])
        self.assertEqual(Way(names=["a", "p"]).names, ["a", "p"])
        self.assertEqual(Shut(["a"]).names, ["a"])
        self.assertEqual(Shut(names=[]).names, [])
        cut = Cut(pairs=[("a", "p")], ways=[["a", "p"]])
        self.assertEqual((cut.pairs, cut.ways), ([("a", "p")], [["a", "p"]]))
        self.assertIsInstance(Named(), Named)

    def test_lists_are_copied(self):
        names = ["a", "p"]
        way, shut = Way(names), Shut(names)
        names.append("x")
        self.assertEqual((way.names, shut.names), (["a", "p"], ["a", "p"]))
        way.names.append("y")
        self.assertEqual((names, shut.names), (["a", "p", "x"], ["a", "p"]))

    def test_lists_within_are_copied(self):
        pairs, ways = [("a", "p")], [["a", "p"]]
        cut = Cut(pairs, ways)
        pairs.append(("a", "q"))
        ways[0].append("x")
        ways.append(["y"])
        self.assertEqual((cut.pairs, cut.ways), ([("a", "p")], [["a", "p"]]))
        cut.ways[0].clear()
        cut.pairs.clear()
        self.assertEqual((pairs, ways), ([("a", "p"), ("a", "q")], [["a", "p", "x"], ["y"]]))

    def test_order_and_doubles_are_kept_as_handed_in(self):
        self.assertEqual(Shut(["b", "a", "b"]).names, ["b", "a", "b"])
        cut = Cut([("b", "p"), ("a", "p"), ("b", "p")], [[], []])
        self.assertEqual((cut.pairs, cut.ways), ([("b", "p"), ("a", "p"), ("b", "p")], [[], []]))


class ShowsTest(unittest.TestCase):
    """A book to which all four kinds are asked."""

    # To p lead a-b-p and a-c-p; b is barred but to s; q has left c; nothing leads out of d but to itself.
    book = [
        ("a", ["b", "c"], [], None),
        ("b", ["p", "q", "a"], [], "s"),
        ("c", ["p", "q"], ["q"], None),
        ("d", ["d", "e"], ["q"], None),
        ("e", ["d", "r"], ["p"], None),
        ("free", [], [], None),
    ]

    def shown(self, answer, sender, names, person):
        self.assertIs(answer.shows(self.book, sender, names, person), True, vars(answer))

    def not_shown(self, answer, sender, names, person):
        self.assertIs(answer.shows(self.book, sender, names, person), False, vars(answer))


class WayTest(ShowsTest):
    def test_told_one_and_others(self):
        self.shown(Way(["a", "b", "p"]), "s", ["a"], "p")
        self.shown(Way(["a", "c", "p"]), "s", ["a"], "p")
        self.shown(Way(["c", "p"]), "s", ["a", "c"], "p")
        self.shown(Way(["a", "c", "p"]), "s", ["a", "c"], "p")

    def test_lists_may_come_again(self):
        self.shown(Way(["a", "b", "a", "c", "p"]), "s", ["a"], "p")
        self.shown(Way(["d", "d", "e", "d", "d", "e", "r"]), "s", ["d"], "r")

    def test_one_name(self):
        self.shown(Way(["p"]), "s", ["p"], "p")
        self.shown(Way(["p"]), "s", ["a", "p"], "p")
        self.not_shown(Way(["p"]), "s", ["a"], "p")
        self.not_shown(Way(["p"]), "s", ["p"], "q")
        self.not_shown(Way(["p", "p"]), "s", ["p"], "p")

    def test_no_name(self):
        self.not_shown(Way([]), "s", ["a"], "p")
        self.not_shown(Way([]), "s", ["p"], "p")

    def test_one_name_more_or_less(self):
        self.not_shown(Way(["a", "b"]), "s", ["a"], "p")
        self.not_shown(Way(["b", "p"]), "s", ["a"], "p")
        self.not_shown(Way(["a", "p"]), "s", ["a"], "p")
        self.not_shown(Way(["a", "b", "p", "p"]), "s", ["a"], "p")
        self.not_shown(Way(["a", "a", "b", "p"]), "s", ["a"], "p")
        self.not_shown(Way(["a", "b", "c", "p"]), "s", ["a"], "p")

    def test_turned(self):
        self.not_shown(Way(["p", "b", "a"]), "s", ["a"], "p")
        self.not_shown(Way(["b", "a", "p"]), "s", ["a", "b"], "p")

    def test_to_somebody_else(self):
        self.not_shown(Way(["a", "b", "p"]), "s", ["a"], "q")

    def test_list_that_holds_it(self):
        self.not_shown(Way(["a", "b", "p"]), "t", ["a"], "p")
        self.shown(Way(["a", "c", "p"]), "t", ["a"], "p")
        self.not_shown(Way(["b", "p"]), "t", ["b"], "p")

    def test_list_that_they_have_left(self):
        self.not_shown(Way(["a", "c", "q"]), "s", ["a"], "q")
        self.shown(Way(["a", "b", "q"]), "s", ["a"], "q")

    def test_names_that_are_no_lists(self):
        self.not_shown(Way(["x", "p"]), "s", ["x"], "p")
        self.not_shown(Way(["a", "x", "p"]), "s", ["a"], "p")
        self.not_shown(Way(["", "p"]), "s", ["a"], "p")
        self.not_shown(Way(["A", "B", "p"]), "s", ["a"], "p")

    def test_fields_changed_behind_the_making(self):
        way = Way(["a", "b"])
        way.names.append("p")
        self.shown(way, "s", ["a"], "p")
        way.names = ["a", "c"]
        self.not_shown(way, "s", ["a"], "p")
        way.names = ["a", "c", "p"]
        self.shown(way, "s", ["a"], "p")

    def test_handed_in_lists_changed_afterwards(self):
        names = ["a", "b", "p"]
        way = Way(names)
        names.pop()
        self.shown(way, "s", ["a"], "p")

    def test_all_rows_of_random_books(self):
        for book, sender, names in plain.random_cases(4, 40):
            for many in range(1, 5):
                for row in itertools.product(["a", "b", "dd", "p", "q"], repeat=many):
                    person = row[-1]
                    if not plain.is_list(book, person):
                        with self.subTest(book=book, sender=sender, names=names, row=row):
                            self.assertIs(Way(list(row)).shows(book, sender, names, person),
                                          self.is_way(book, sender, names, row))

    def is_way(self, book, sender, names, row):
        if row[0] not in names:
            return False
        for at in range(len(row) - 1):
            entry = plain.entry_of(book, row[at])
            if entry is None or row[at + 1] not in entry[1] or row[-1] in entry[2]:
                return False
            if not plain.lets_in(book, entry, sender):
                return False
        return True


class ShutTest(ShowsTest):
    def test_fewest_and_more(self):
        self.shown(Shut(["d", "e"]), "s", ["d"], "x")
        self.shown(Shut(["a", "b", "c"]), "s", ["a"], "r")
        self.shown(Shut(["a", "b", "c", "free"]), "s", ["a"], "r")
        self.shown(Shut(["a", "c"]), "t", ["a"], "r")
        self.shown(Shut(["a", "c", "free"]), "t", ["a"], "r")

    def test_empty(self):
        self.shown(Shut([]), "s", ["x"], "p")
        self.shown(Shut([]), "t", ["b"], "p")
        self.shown(Shut([]), "s", ["e"], "p")
        self.shown(Shut([]), "s", ["c"], "q")
        self.not_shown(Shut([]), "s", ["free"], "p")
        self.not_shown(Shut([]), "s", ["p"], "p")
        self.not_shown(Shut([]), "s", ["b"], "r")

    def test_list_to_which_it_is_sent_is_missing(self):
        self.not_shown(Shut(["free"]), "s", ["a", "free"], "r")
        self.not_shown(Shut(["a", "b", "c"]), "s", ["a", "free"], "r")
        self.shown(Shut(["a", "b", "c", "free"]), "s", ["a", "free"], "r")

    def test_member_is_missing(self):
        self.not_shown(Shut(["a", "b"]), "s", ["a"], "r")
        self.not_shown(Shut(["a", "c"]), "s", ["a"], "r")
        self.not_shown(Shut(["a"]), "s", ["a"], "r")

    def test_list_that_holds_it_is_among_them(self):
        self.not_shown(Shut(["a", "b", "c"]), "t", ["a"], "r")

    def test_list_that_they_have_left_is_among_them(self):
        self.shown(Shut(["d"]), "s", ["d"], "p")
        self.not_shown(Shut(["d", "e"]), "s", ["d"], "p")
        self.not_shown(Shut(["a", "b", "c"]), "s", ["a"], "q")

    def test_sent_to_them(self):
        self.not_shown(Shut(["a", "b", "c"]), "s", ["a", "r"], "r")
        self.not_shown(Shut([]), "s", ["r"], "r")
        self.not_shown(Shut(["free"]), "s", ["r", "free"], "r")

    def test_member_of_one_of_them(self):
        self.not_shown(Shut(["a", "c"]), "t", ["a"], "p")
        self.not_shown(Shut(["d", "e"]), "s", ["d"], "r")
        # One list more than needed breaks it, if they are its member.
        self.shown(Shut(["free"]), "s", ["free"], "p")
        self.not_shown(Shut(["c", "free"]), "s", ["free"], "p")

    def test_turned_and_twice(self):
        self.not_shown(Shut(["c", "b", "a"]), "s", ["a"], "r")
        self.not_shown(Shut(["a", "c", "b"]), "s", ["a"], "r")
        self.not_shown(Shut(["free", "a", "b", "c"]), "s", ["a"], "r")
        self.not_shown(Shut(["a", "a", "b", "c"]), "s", ["a"], "r")
        self.not_shown(Shut(["a", "b", "c", "c"]), "s", ["a"], "r")

    def test_shorter_names_come_first(self):
        book = [("b", [], [], None), ("aa", [], [], None)]
        self.assertIs(Shut(["b", "aa"]).shows(book, "s", ["aa", "b"], "p"), True)
        self.assertIs(Shut(["aa", "b"]).shows(book, "s", ["aa", "b"], "p"), False)

    def test_name_that_is_no_lists(self):
        for names in (["a", "b", "c", "p"], ["a", "b", "c", "x"], ["", "a", "b", "c"], ["A", "a", "b", "c"]):
            self.not_shown(Shut(names), "s", ["a"], "r")

    def test_fields_changed_behind_the_making(self):
        shut = Shut(["a", "b"])
        shut.names.append("c")
        self.shown(shut, "s", ["a"], "r")
        shut.names.reverse()
        self.not_shown(shut, "s", ["a"], "r")
        shut.names = ["a", "b", "c"]
        self.shown(shut, "s", ["a"], "r")

    def test_handed_in_lists_changed_afterwards(self):
        names = ["a", "b", "c"]
        shut = Shut(names)
        names.clear()
        self.shown(shut, "s", ["a"], "r")

    def test_all_sets_of_lists_of_random_books(self):
        for book, sender, names in plain.random_cases(5, 300):
            for person in [name for name in plain.POOL if not plain.is_list(book, name)]:
                shown = False
                for many in range(len(plain.LISTS) + 1):
                    for lists in itertools.combinations(plain.LISTS, many):
                        with self.subTest(book=book, sender=sender, names=names, person=person, lists=lists):
                            told = Shut(list(lists)).shows(book, sender, names, person)
                            self.assertIs(told, self.is_shut(book, sender, names, person, set(lists)))
                            shown = shown or told
                self.assertIs(shown, not plain.letter_ways(book, sender, names, person))

    def is_shut(self, book, sender, names, person, lists):
        such = {entry[0] for entry in book if person not in entry[2] and plain.lets_in(book, entry, sender)}
        members = {member for entry in book if entry[0] in lists for member in entry[1]}
        return (lists <= such and such & set(names) <= lists and such & members <= lists
                and person not in names and person not in members)


class CutTest(ShowsTest):
    def test_two_ways(self):
        ways = [["a", "b", "p"], ["a", "c", "p"]]
        self.shown(Cut([("b", "p"), ("c", "p")], ways), "s", ["a"], "p")
        self.shown(Cut([("a", "b"), ("a", "c")], ways), "s", ["a"], "p")
        self.shown(Cut([("a", "b"), ("c", "p")], ways), "s", ["a"], "p")
        self.shown(Cut([("a", "c"), ("b", "p")], ways[::-1]), "s", ["a"], "p")

    def test_one_way(self):
        self.shown(Cut([("c", "p")], [["a", "c", "p"]]), "t", ["a"], "p")
        self.shown(Cut([("a", "c")], [["a", "c", "p"]]), "t", ["a"], "p")
        self.shown(Cut([("e", "r")], [["d", "e", "r"]]), "s", ["d"], "r")
        self.shown(Cut([("e", "r")], [["d", "d", "e", "r"]]), "s", ["d"], "r")
        self.shown(Cut([("e", "r")], [["d", "e", "r"]]), "s", ["d", "e"], "r")

    def test_no_way(self):
        self.shown(Cut([], []), "s", ["x"], "p")
        self.shown(Cut([], []), "t", ["b"], "p")
        self.shown(Cut([], []), "s", ["c"], "q")
        self.not_shown(Cut([], []), "s", ["a"], "p")

    def test_sent_to_their_name(self):
        self.not_shown(Cut([], []), "s", ["p"], "p")
        self.not_shown(Cut([("c", "p")], [["c", "p"]]), "s", ["c", "p"], "p")
        self.not_shown(Cut([], [["p"]]), "s", ["p"], "p")

    def test_too_few_or_too_many(self):
        ways = [["a", "b", "p"], ["a", "c", "p"]]
        self.not_shown(Cut([("b", "p"), ("c", "p")], ways[:1]), "s", ["a"], "p")
        self.not_shown(Cut([("b", "p")], ways), "s", ["a"], "p")
        self.not_shown(Cut([("b", "p")], ways[:1]), "s", ["a"], "p")
        self.not_shown(Cut([("a", "b"), ("b", "p"), ("c", "p")], ways), "s", ["a"], "p")
        self.not_shown(Cut([("a", "b"), ("b", "p"), ("c", "p")], [*ways, ["a", "b", "a", "c", "p"]]), "s", ["a"], "p")

    def test_memberships_that_leave_a_way(self):
        ways = [["a", "b", "p"], ["a", "c", "p"]]
        self.not_shown(Cut([("a", "b"), ("b", "p")], ways), "s", ["a"], "p")
        self.not_shown(Cut([("a", "b"), ("b", "q")], ways), "s", ["a"], "p")
        self.not_shown(Cut([("a", "c"), ("c", "p")], ways), "s", ["a"], "p")
        self.not_shown(Cut([("d", "d")], [["d", "e", "r"]]), "s", ["d"], "r")

    def test_memberships_turned_and_twice(self):
        ways = [["a", "b", "p"], ["a", "c", "p"]]
        self.not_shown(Cut([("c", "p"), ("b", "p")], ways), "s", ["a"], "p")
        self.not_shown(Cut([("a", "c"), ("a", "b")], ways), "s", ["a"], "p")
        self.not_shown(Cut([("p", "b"), ("p", "c")], ways), "s", ["a"], "p")
        self.not_shown(Cut([("c", "p"), ("c", "p")], [["a", "c", "p"], ["a", "c", "p"]]), "t", ["a"], "p")
        self.not_shown(Cut([("b", "p"), ("b", "p")], ways), "s", ["a"], "p")

    def test_shorter_names_come_first(self):
        book = [("b", ["p"], [], None), ("aa", ["p"], [], None), ("y", ["b", "aa"], [], None)]
        ways = [["y", "b", "p"], ["y", "aa", "p"]]
        self.assertIs(Cut([("b", "p"), ("aa", "p")], ways).shows(book, "s", ["y"], "p"), True)
        self.assertIs(Cut([("aa", "p"), ("b", "p")], ways).shows(book, "s", ["y"], "p"), False)
        self.assertIs(Cut([("y", "b"), ("y", "aa")], ways).shows(book, "s", ["y"], "p"), True)
        self.assertIs(Cut([("y", "aa"), ("y", "b")], ways).shows(book, "s", ["y"], "p"), False)

    def test_memberships_that_are_none(self):
        self.not_shown(Cut([("a", "p")], [["a", "c", "p"]]), "t", ["a"], "p")
        self.not_shown(Cut([("x", "p")], [["a", "c", "p"]]), "t", ["a"], "p")
        self.not_shown(Cut([("p", "c")], [["a", "c", "p"]]), "t", ["a"], "p")
        self.not_shown(Cut([("", "")], [["a", "c", "p"]]), "t", ["a"], "p")

    def test_ways_that_share_a_membership(self):
        book = [
            ("a", ["m"], [], None), ("m", ["b", "c"], [], None), ("b", ["p"], [], None), ("c", ["p"], [], None),
        ]
        ways = [["a", "m", "b", "p"], ["a", "m", "c", "p"]]
        self.assertIs(Cut([("b", "p"), ("c", "p")], ways).shows(book, "s", ["a"], "p"), False)
        self.assertIs(Cut([("a", "m")], ways[:1]).shows(book, "s", ["a"], "p"), True)
        self.assertIs(Cut([("b", "p"), ("c", "p")], [ways[0], ["m", "c", "p"]]).shows(book, "s", ["a", "m"], "p"), True)

    def test_ways_that_share_a_list_but_no_membership(self):
        book = [("a", ["m"], [], None), ("b", ["m"], [], None), ("m", ["c", "d"], [], None),
                ("c", ["p"], [], None), ("d", ["p"], [], None)]
        cut = Cut([("c", "p"), ("d", "p")], [["a", "m", "c", "p"], ["b", "m", "d", "p"]])
        self.assertIs(cut.shows(book, "s", ["a", "b"], "p"), True)

    def test_one_way_twice(self):
        self.not_shown(Cut([("b", "p"), ("c", "p")], [["a", "b", "p"], ["a", "b", "p"]]), "s", ["a"], "p")

    def test_membership_twice_on_one_way(self):
        self.not_shown(Cut([("e", "r")], [["d", "d", "d", "e", "r"]]), "s", ["d"], "r")
        self.not_shown(Cut([("e", "r")], [["d", "e", "d", "e", "r"]]), "s", ["d"], "r")

    def test_rows_that_are_no_ways(self):
        pairs = [("c", "p")]
        for row in ([], ["p"], ["c", "p"], ["a", "p"], ["a", "c"], ["p", "c", "a"], ["a", "c", "q"], ["a", "b", "p"],
                    ["a", "c", "p", "p"], ["a", "x", "p"], ["", "p"]):
            self.not_shown(Cut(pairs, [row]), "t", ["a"], "p")

    def test_fields_changed_behind_the_making(self):
        cut = Cut([("b", "p")], [["a", "b"], ["a", "c", "p"]])
        cut.pairs.append(("c", "p"))
        self.not_shown(cut, "s", ["a"], "p")
        cut.ways[0].append("p")
        self.shown(cut, "s", ["a"], "p")
        cut.pairs = [("c", "p")]
        self.not_shown(cut, "s", ["a"], "p")
        cut.ways = [["a", "c", "p"]]
        self.shown(cut, "t", ["a"], "p")

    def test_handed_in_lists_changed_afterwards(self):
        pairs, ways = [("c", "p")], [["a", "c", "p"]]
        cut = Cut(pairs, ways)
        pairs.clear()
        ways[0].clear()
        ways.clear()
        self.shown(cut, "t", ["a"], "p")

    def test_all_pairs_and_ways_of_random_books(self):
        seen = set()
        for book, sender, names in plain.random_cases(6, 250):
            for person in [name for name in plain.PEOPLE if name not in names]:
                ways = plain.letter_ways(book, sender, names, person)
                if len(ways) <= 5:
                    seen.update(self.compare(book, sender, names, person, ways))
        self.assertLessEqual({(True, 0), (True, 1), (True, 2), (False, 1), (False, 2)}, seen)

    def compare(self, book, sender, names, person, ways):
        """Ask of all sets of at most two ways and of memberships, and compare with the document's words."""
        steps = [set(zip(way, way[1:])) for way in ways]
        pairs = [(name, member) for name, members, left, gate in book for member in members]
        pairs = sorted(pairs, key=lambda pair: (plain.place(pair[0]), plain.place(pair[1])))
        seen = set()
        for many in range(3):
            for chosen in itertools.combinations(range(len(ways)), many):
                apart = not any(steps[one] & steps[other] for one, other in itertools.combinations(chosen, 2))
                for cut in itertools.combinations(pairs, many):
                    right = apart and all(step & set(cut) for step in steps)
                    told = Cut(list(cut), [ways[at] for at in chosen]).shows(book, sender, names, person)
                    with self.subTest(book=book, sender=sender, names=names, person=person, chosen=chosen, cut=cut):
                        self.assertIs(told, right)
                    seen.add((told, many))
        return seen


class NamedTest(ShowsTest):
    def test_sent_to_their_name_or_not(self):
        self.shown(Named(), "s", ["p"], "p")
        self.shown(Named(), "p", ["a", "x", "p"], "p")
        self.not_shown(Named(), "s", ["a"], "p")
        self.not_shown(Named(), "p", ["a", "x"], "p")


class HandedInTest(ShowsTest):
    def test_nothing_is_changed(self):
        answers = [Way(["a", "c", "p"]), Shut(["a", "c"]), Cut([("c", "p")], [["a", "c", "p"]]), Named()]
        fields = [copy.deepcopy(vars(answer)) for answer in answers]
        before = copy.deepcopy(self.book)
        names = ["free", "a"]
        for answer in answers:
            for person in ("p", "r"):
                told = [answer.shows(self.book, "t", names, person) for _ in range(3)]
                self.assertEqual(len(set(told)), 1)
        self.assertEqual(self.book, before)
        self.assertEqual(names, ["free", "a"])
        self.assertEqual([vars(answer) for answer in answers], fields)

    def test_by_keywords(self):
        for answer in (Way(["p"]), Shut([]), Cut([], []), Named()):
            told = answer.shows(book=self.book, sender="s", names=["p"], person="p")
            self.assertIs(told, isinstance(answer, (Way, Named)))

    def test_changed_book_is_looked_at_anew(self):
        book = copy.deepcopy(self.book)
        way = Way(["a", "c", "p"])
        self.assertIs(way.shows(book, "s", ["a"], "p"), True)
        book[2][2].append("p")
        self.assertIs(way.shows(book, "s", ["a"], "p"), False)


if __name__ == "__main__":
    unittest.main()
