"""Why a letter reaches somebody or doesn't, and the fewest memberships that all ways need."""

import itertools
import unittest

from listpost.answers import Cut, Named, Shut, Way
from listpost.books import reached
from listpost.errors import BadBook, BadName, BadNames
from listpost.ways import cut, why
from tests import plain


def persons_of(book, names):
    return [name for name in plain.all_names(book, [*names, *plain.PEOPLE, "zz"]) if not plain.is_list(book, name)]


def fewest_lists(book, sender, names, person):
    """The smallest lists that show that no way leads to somebody, found by trying all."""
    lists = plain.ordered([entry[0] for entry in book])
    for many in range(len(lists) + 1):
        found = [list(some) for some in itertools.combinations(lists, many)
                 if Shut(list(some)).shows(book, sender, names, person)]
        if found:
            return found
    return []


class WhyTest(unittest.TestCase):
    def told_way(self, book, sender, names, person, way):
        told = why(book, sender, names, person)
        self.assertIsInstance(told, Way)
        self.assertEqual(told.names, way)
        self.assertIs(told.shows(book, sender, names, person), True)

    def told_shut(self, book, sender, names, person, lists):
        told = why(book, sender, names, person)
        self.assertIsInstance(told, Shut)
        self.assertEqual(told.names, lists)
        self.assertIs(told.shows(book, sender, names, person), True)

    def test_own_name(self):
        self.told_way([], "s", ["p"], "p", ["p"])
        self.told_way([("a", ["p"], [], None)], "s", ["a", "p"], "p", ["p"])
        self.told_way([("a", ["p"], ["p"], None)], "s", ["q", "p", "a"], "p", ["p"])
        self.told_way([], "p", ["p"], "p", ["p"])

    def test_member(self):
        book = [("a", ["p", "q"], [], None)]
        self.told_way(book, "s", ["a"], "p", ["a", "p"])
        self.told_way(book, "q", ["a"], "q", ["a", "q"])
        self.told_shut(book, "s", ["a"], "r", ["a"])
        self.told_shut(book, "s", ["q"], "p", [])

    def test_fewest_names_ahead_of_the_first_ones(self):
        book = [("a", ["b"], [], None), ("b", ["p"], [], None), ("zz", ["p"], [], None)]
        self.told_way(book, "s", ["a", "zz"], "p", ["zz", "p"])
        self.told_way(book, "s", ["zz", "a", "b"], "p", ["b", "p"])

    def test_first_name_that_is_unlike(self):
        book = [
            ("top", ["zz", "b", "y", "aa"], [], None), ("b", ["x", "c"], [], None), ("y", ["a"], [], None),
            ("zz", ["p"], [], None), ("aa", ["p"], [], None), ("a", ["p"], [], None), ("c", ["p"], [], None),
        ]
        self.told_way(book, "s", ["top"], "p", ["top", "aa", "p"])
        book = [
            ("top", ["c", "bb"], [], None), ("c", ["zz"], [], None), ("bb", ["a"], [], None),
            ("zz", ["p"], [], None), ("a", ["p"], [], None),
        ]
        self.told_way(book, "s", ["top"], "p", ["top", "c", "zz", "p"])

    def test_shorter_names_are_first(self):
        book = [("top", ["aa", "z"], [], None), ("aa", ["p"], [], None), ("z", ["p"], [], None)]
        self.told_way(book, "s", ["top"], "p", ["top", "z", "p"])
        self.told_way(book, "s", ["aa", "z"], "p", ["z", "p"])

    def test_neither_the_turn_of_members_nor_of_entries_matters(self):
        book = [("a", ["d", "c", "b"], [], None), ("b", ["p"], [], None), ("c", ["p"], [], None),
                ("d", ["p"], [], None)]
        for turn in itertools.permutations(book):
            self.told_way(list(turn), "s", ["a"], "p", ["a", "b", "p"])
        self.told_way(book, "s", ["d", "c"], "p", ["c", "p"])

    def test_rings(self):
        ring = [("a", ["a", "b"], [], None), ("b", ["c", "a"], [], None), ("c", ["a", "p", "b"], [], None)]
        self.told_way(ring, "s", ["a"], "p", ["a", "b", "c", "p"])
        self.told_way(ring, "s", ["b", "a"], "p", ["b", "c", "p"])
        self.told_shut(ring, "s", ["a"], "q", ["a", "b", "c"])

    def test_lists_that_are_left(self):
        book = [("a", ["b", "cc"], [], None), ("b", ["p", "q"], ["p"], None), ("cc", ["d"], [], None),
                ("d", ["p"], ["q"], None)]
        self.told_way(book, "s", ["a"], "p", ["a", "cc", "d", "p"])
        self.told_way(book, "s", ["a"], "q", ["a", "b", "q"])
        self.told_shut(book, "s", ["b"], "p", [])
        self.told_shut(book, "s", ["cc"], "q", ["cc"])
        self.told_shut([("a", ["b"], ["p"], None), ("b", ["p"], [], None)], "s", ["a"], "p", [])

    def test_lists_that_do_not_let_the_sender_in(self):
        book = [("a", ["b", "cc"], [], None), ("b", ["p"], [], "s"), ("cc", ["d"], [], None), ("d", ["p"], [], "cc")]
        self.told_way(book, "s", ["a"], "p", ["a", "b", "p"])
        self.told_way(book, "p", ["a"], "p", ["a", "cc", "d", "p"])
        self.told_shut(book, "t", ["a"], "p", ["a", "cc"])
        self.told_shut(book, "t", ["b", "d"], "p", [])

    def test_shut_has_only_lists_that_the_letter_comes_to(self):
        book = [("a", ["b", "q"], [], None), ("b", [], [], None), ("c", ["a"], [], None), ("d", ["d"], [], None)]
        self.told_shut(book, "s", ["a"], "p", ["a", "b"])
        self.told_shut(book, "s", ["d", "x"], "p", ["d"])
        self.told_shut(book, "s", ["c"], "p", ["a", "b", "c"])

    def test_shut_in_order(self):
        book = [("aaa", ["zz", "b"], [], None), ("zz", ["a"], [], None), ("b", [], [], None), ("a", [], [], None)]
        self.told_shut(book, "s", ["aaa"], "p", ["a", "b", "zz", "aaa"])

    def test_somebody_who_is_nowhere(self):
        self.told_shut([], "s", ["p"], "q", [])
        self.told_shut([("a", ["p"], ["q"], "q")], "s", ["a"], "q", [])

    def test_random_books(self):
        for book, sender, names in plain.random_cases(31, 250):
            met = reached(book, sender, names)[0]
            for person in persons_of(book, names):
                with self.subTest(book=book, sender=sender, names=names, person=person):
                    told = why(book, sender, names, person)
                    self.assertEqual(isinstance(told, Way), person in met)
                    self.assertIs(told.shows(book, sender, names, person), True)
                    if person in met:
                        ways = plain.letter_ways(book, sender, names, person)
                        first = min(ways, key=lambda way: (len(way), [plain.place(name) for name in way]))
                        self.assertEqual(told.names, first)
                    else:
                        self.assertEqual([told.names], fewest_lists(book, sender, names, person))

    def test_long_chain_and_long_ring(self):
        names = ["".join(letters) for letters in itertools.islice(itertools.product("abcdef", repeat=5), 3000)]
        chain = [(name, [member], [], None) for name, member in zip(names, [*names[1:], "p"])]
        self.told_way(chain, "s", names[:1], "p", [*names, "p"])
        self.told_shut(chain, "s", names[:1], "q", names)
        ring = [(name, [member], [], None) for name, member in zip(names, [*names[1:], names[0]])]
        self.told_shut(ring, "s", names[:1], "p", names)


class CutTest(unittest.TestCase):
    def told(self, book, sender, names, person, many):
        told = cut(book, sender, names, person)
        self.assertIsInstance(told, Cut)
        self.assertEqual((len(told.pairs), len(told.ways)), (many, many))
        self.assertIs(told.shows(book, sender, names, person), True)
        self.assertTrue(all(isinstance(pair, tuple) for pair in told.pairs))
        self.assertTrue(all(isinstance(way, list) for way in told.ways))
        for way in told.ways:
            self.assertEqual(len(set(way)), len(way))
        return told

    def test_named_just_where_it_is_sent_to_their_name(self):
        book = [("a", ["p"], ["p"], "s"), ("b", ["p"], [], None)]
        for names in (["p"], ["a", "p"], ["p", "b"], ["b", "q", "p"]):
            told = cut(book, "t", names, "p")
            self.assertIsInstance(told, Named)
            self.assertIs(told.shows(book, "t", names, "p"), True)
        self.told(book, "t", ["b", "q", "a"], "p", 1)

    def test_none_where_nobody_is_reached(self):
        book = [("a", ["p"], ["p"], None), ("b", ["p"], [], "s"), ("c", ["a", "b"], [], None)]
        for names in (["a"], ["b"], ["c"], ["q"], ["a", "b", "c", "q"]):
            told = self.told(book, "t", names, "p", 0)
            self.assertEqual((told.pairs, told.ways), ([], []))

    def test_one_way(self):
        told = self.told([("a", ["p"], [], None)], "s", ["a"], "p", 1)
        self.assertEqual((told.pairs, told.ways), ([("a", "p")], [["a", "p"]]))

    def test_bottleneck_at_each_place(self):
        spread = [("b", ["d"], [], None), ("c", ["d"], [], None)]
        told = self.told([("a", ["b", "c"], [], None), *spread, ("d", ["p"], [], None)], "s", ["a"], "p", 1)
        self.assertEqual(told.pairs, [("d", "p")])
        told = self.told([("x", ["a"], [], None), ("a", ["b", "c"], [], None), ("b", ["p"], [], None),
                          ("c", ["p"], [], None)], "s", ["x"], "p", 1)
        self.assertEqual(told.pairs, [("x", "a")])
        told = self.told([("a", ["b", "c"], [], None), ("b", ["m"], [], None), ("c", ["m"], [], None),
                          ("m", ["n"], [], None), ("n", ["y", "z"], [], None), ("y", ["p"], [], None),
                          ("z", ["p"], [], None)], "s", ["a"], "p", 1)
        self.assertEqual(told.pairs, [("m", "n")])

    def test_two_ways_through_one_list(self):
        book = [("a", ["b", "c"], [], None), ("b", ["m"], [], None), ("c", ["m"], [], None),
                ("m", ["y", "z"], [], None), ("y", ["p"], [], None), ("z", ["p"], [], None)]
        self.told(book, "s", ["a"], "p", 2)

    def test_names_to_which_it_is_sent_may_be_members_too(self):
        book = [("a", ["b"], [], None), ("b", ["p", "c"], [], None), ("c", ["p", "a"], [], None)]
        self.told(book, "s", ["a"], "p", 1)
        self.told(book, "s", ["a", "b"], "p", 2)
        self.told(book, "s", ["c", "b", "a"], "p", 2)

    def test_shortest_way_must_be_taken_back(self):
        # The shortest way s-a-d-p shares a step with each of the only two ways that go together.
        book = [("s", ["a", "b"], [], None), ("a", ["d", "c"], [], None), ("b", ["bb"], [], None),
                ("bb", ["d"], [], None), ("d", ["p"], [], None), ("c", ["cc"], [], None), ("cc", ["p"], [], None)]
        told = self.told(book, "s", ["s"], "p", 2)
        self.assertEqual(sorted(told.ways), [["s", "a", "c", "cc", "p"], ["s", "b", "bb", "d", "p"]])

    def test_step_taken_back_and_gone_the_other_way(self):
        # The shortest way s-a-d-p has to be taken back, and one of the three ways needs the step from d to a.
        book = [("s", ["a", "b", "e"], [], None), ("a", ["d", "c", "f"], [], None), ("b", ["bb"], [], None),
                ("bb", ["d"], [], None), ("e", ["ee"], [], None), ("ee", ["d"], [], None), ("d", ["p", "a"], [], None),
                ("c", ["cc"], [], None), ("cc", ["p"], [], None), ("f", ["ff"], [], None), ("ff", ["p"], [], None)]
        self.told(book, "s", ["s"], "p", 3)

    def test_two_lists_that_are_members_of_each_other(self):
        book = [("a", ["b", "p"], [], None), ("b", ["a", "p"], [], None)]
        self.told(book, "s", ["a"], "p", 2)
        self.told(book, "s", ["a", "b"], "p", 2)
        book = [("s", ["a", "b"], [], None), ("a", ["b", "x"], [], None), ("b", ["a", "y"], [], None),
                ("x", ["p"], [], None), ("y", ["p"], [], None)]
        self.told(book, "s", ["s"], "p", 2)

    def test_lists_left_and_lists_that_do_not_let_in(self):
        book = [("a", ["b", "c", "d"], [], None), ("b", ["p"], ["p"], None), ("c", ["p"], [], "s"),
                ("d", ["p"], ["q"], None)]
        self.told(book, "s", ["a"], "p", 2)
        self.told(book, "t", ["a"], "p", 1)

    def test_pairs_in_order(self):
        names = ["zz", "b", "aa", "a", "ccc"]
        book = [("top", names, [], None), *[(name, ["p"], [], None) for name in names]]
        told = self.told(book, "s", ["top"], "p", 5)
        self.assertEqual(told.pairs, [("top", name) for name in ["a", "b", "aa", "zz", "ccc"]])
        told = self.told(book, "s", names, "p", 5)
        self.assertEqual(told.pairs, [(name, "p") for name in ["a", "b", "aa", "zz", "ccc"]])

    def test_random_books(self):
        for book, sender, names in plain.random_cases(32, 400):
            met = reached(book, sender, names)[0]
            for person in persons_of(book, names):
                with self.subTest(book=book, sender=sender, names=names, person=person):
                    told = cut(book, sender, names, person)
                    self.assertEqual(isinstance(told, Named), person in names)
                    self.assertIs(told.shows(book, sender, names, person), True)
                    if person not in names:
                        self.assertEqual(told.pairs != [], person in met)

    def test_random_rich_books(self):
        chance = plain.random.Random(33)
        lists = [first + second for first in "abcd" for second in "wxyz"]
        for _ in range(60):
            many = chance.randint(1, 5)
            book = [(name, chance.sample([*lists, "p", "q"], many), chance.sample(["p", "q"], chance.choice([0, 0, 1])),
                     None) for name in chance.sample(lists, len(lists))]
            for person in ("p", "q"):
                names = chance.sample(lists, 3)
                with self.subTest(book=book, names=names, person=person):
                    self.assertIs(cut(book, "s", names, person).shows(book, "s", names, person), True)

    def test_rich_in_members(self):
        lists = [first + second for first in "abcdef" for second in "abcdefghij"]
        people = ["p" + name for name in lists]
        book = [(name, [*lists, *people, "me"], [], None) for name in lists]
        self.told(book, "s", ["aa"], "me", 60)
        self.told(book, "s", lists, "me", 60)
        self.told(book, "s", ["aa"], "paa", 60)

    def test_chain_with_steps_over(self):
        lists = [first + second for first in "abcdef" for second in "abcdefghij"]
        members = [[*lists[at + 1:at + 4], "me"][:3] for at in range(60)]
        book = [(name, row, [], None) for name, row in zip(lists, members)]
        self.told(book, "s", ["aa"], "me", 3)
        self.told([(name, [member], [], None) for name, member in zip(lists, [*lists[1:], "me"])], "s", ["aa"], "me", 1)

    def test_layers(self):
        layers = [[first + second for second in "abcdefgh"] for first in "abcdefgh"]
        book = [(name, list(below), [], None) for layer, below in zip(layers, [*layers[1:], ["me"]]) for name in layer]
        self.told(book, "s", ["aa"], "me", 8)
        self.told(book, "s", layers[0], "me", 8)
        self.told(book, "s", ["ha", "gb"], "me", 8)
        narrow = [(name, members[:1] if name == "aa" else members, left, gate) for name, members, left, gate in book]
        self.told(narrow, "s", ["aa"], "me", 1)
        self.told(narrow, "s", ["aa", "ab"], "me", 8)


class RefusalTest(unittest.TestCase):
    book = [("a", ["p"], [], None), ("b", ["a"], [], "s")]

    def test_somebody_who_is_no_name(self):
        for ask in (why, cut):
            for thing in plain.NO_NAMES:
                with self.subTest(ask=ask, thing=thing):
                    self.assertRaises(BadName, ask, self.book, "s", ["a"], thing)

    def test_somebody_who_is_a_list(self):
        for ask in (why, cut):
            for name in ("a", "b"):
                for names in (["a"], ["b"], ["p", "a"], ["p"]):
                    with self.subTest(ask=ask, name=name, names=names):
                        self.assertRaises(BadName, ask, self.book, "s", names, name)

    def test_behind_the_letter(self):
        for ask in (why, cut):
            for person in (None, "", "a", []):
                with self.subTest(ask=ask, person=person):
                    self.assertRaises(BadBook, ask, [None], "s", ["a"], person)
                    self.assertRaises(BadNames, ask, self.book, "s", [], person)
                    self.assertRaises(BadNames, ask, self.book, "s", ["a", "a"], person)
                    self.assertRaises(BadName, ask, self.book, 1, ["a"], person)


if __name__ == "__main__":
    unittest.main()
