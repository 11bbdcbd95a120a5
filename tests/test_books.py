"""Books, whom a name stands for, rings, and whom a letter reaches."""

import copy
import unittest

from listpost.books import people, reached, rings
from tests import plain


class PeopleTest(unittest.TestCase):
    def test_no_entries(self):
        self.assertEqual(people([], "a"), ["a"])

    def test_one_entry(self):
        book = [("club", ["bea", "al"], [], None)]
        self.assertEqual(people(book, "club"), ["al", "bea"])
        self.assertEqual(people(book, "al"), ["al"])
        self.assertEqual(people(book, "strange"), ["strange"])

    def test_list_without_members_stands_for_nobody(self):
        self.assertEqual(people([("a", [], [], None)], "a"), [])

    def test_shorter_names_come_first(self):
        names = ["b", "aa", "z", "ab", "zzz", "aaaa", "a", "azz", "ba"]
        told = ["a", "b", "z", "aa", "ab", "ba", "azz", "zzz", "aaaa"]
        self.assertEqual(people([("list", names, [], None)], "list"), told)

    def test_longest_names(self):
        long = "z" * 20
        self.assertEqual(people([(long, ["a" * 20, "z" * 19], [], None)], long), ["z" * 19, "a" * 20])

    def test_lists_within_lists(self):
        book = [("a", ["b", "p"], [], None), ("b", ["c", "q"], [], None), ("c", ["r", "p"], [], None)]
        self.assertEqual(people(book, "a"), ["p", "q", "r"])
        self.assertEqual(people(book, "b"), ["p", "q", "r"])
        self.assertEqual(people(book, "c"), ["p", "r"])

    def test_members_listed_ahead_of_their_list_or_behind_it(self):
        book = [("c", ["p"], [], None), ("a", ["b", "c"], [], None), ("b", ["q"], [], None)]
        self.assertEqual(people(book, "a"), ["p", "q"])

    def test_own_member(self):
        self.assertEqual(people([("a", ["a"], [], None)], "a"), [])
        self.assertEqual(people([("a", ["a", "p"], [], None)], "a"), ["p"])

    def test_rings_of_lists(self):
        book = [("a", ["b", "p"], [], None), ("b", ["c", "q"], [], None), ("c", ["a", "r"], [], None)]
        for name in "abc":
            self.assertEqual(people(book, name), ["p", "q", "r"])

    def test_one_who_has_left_the_list(self):
        book = [("a", ["p", "q"], ["p"], None)]
        self.assertEqual(people(book, "a"), ["q"])
        self.assertEqual(people(book, "p"), ["p"])

    def test_one_who_has_left_an_outer_list(self):
        book = [("a", ["b", "q"], ["p"], None), ("b", ["p"], [], None)]
        self.assertEqual(people(book, "a"), ["q"])
        self.assertEqual(people(book, "b"), ["p"])

    def test_one_who_has_left_one_list_and_not_another_on_the_way(self):
        book = [
            ("a", ["b", "c"], [], None),
            ("b", ["p", "q"], ["p"], None),
            ("c", ["d"], ["q"], None),
            ("d", ["p", "q"], [], None),
        ]
        self.assertEqual(people(book, "a"), ["p", "q"])
        self.assertEqual(people(book, "b"), ["q"])
        self.assertEqual(people(book, "c"), ["p"])

    def test_ways_of_two_people_do_not_mix(self):
        # Each has left a list on the only way of the two that the other one can take.
        book = [
            ("top", ["left", "right"], [], None),
            ("left", ["end"], ["p", "r"], None),
            ("right", ["end"], ["q", "r"], None),
            ("end", ["p", "q", "r", "s"], [], None),
        ]
        self.assertEqual(people(book, "top"), ["p", "q", "s"])

    def test_left_without_being_a_member_there(self):
        self.assertEqual(people([("a", ["p"], ["q", "strange"], None)], "a"), ["p"])

    def test_list_among_those_who_have_left_means_nothing(self):
        book = [("a", ["b"], ["b", "a"], None), ("b", ["p"], ["b"], None)]
        self.assertEqual(people(book, "a"), ["p"])

    def test_gates_mean_nothing_to_whom_a_name_stands_for(self):
        book = [("a", ["b", "p"], [], "boss"), ("b", ["q"], [], "b")]
        self.assertEqual(people(book, "a"), ["p", "q"])

    def test_name_that_is_only_a_gate_or_only_left_is_somebodys(self):
        book = [("a", ["p"], ["x"], "y")]
        self.assertEqual(people(book, "x"), ["x"])
        self.assertEqual(people(book, "y"), ["y"])

    def test_random_books_against_the_slow_way(self):
        for book, sender, names in plain.random_cases(1, 400):
            for name in [*plain.POOL, "strange"]:
                with self.subTest(book=book, name=name):
                    self.assertEqual(people(book, name), plain.slow_people(book, name))


class RingsTest(unittest.TestCase):
    def test_none(self):
        self.assertEqual(rings([]), [])
        self.assertEqual(rings([("a", [], [], None)]), [])
        self.assertEqual(rings([("a", ["b", "p"], [], None), ("b", ["p"], [], None)]), [])

    def test_own_member(self):
        self.assertEqual(rings([("a", ["p", "a"], [], None)]), [["a"]])

    def test_two(self):
        self.assertEqual(rings([("b", ["a"], [], None), ("a", ["b"], [], None)]), [["a", "b"]])

    def test_own_member_within_a_larger_ring_is_in_one_ring(self):
        book = [("a", ["b", "a"], [], None), ("b", ["a"], [], None)]
        self.assertEqual(rings(book), [["a", "b"]])

    def test_rings_that_share_a_list_are_one(self):
        book = [("a", ["b", "c"], [], None), ("b", ["a"], [], None), ("c", ["a"], [], None)]
        self.assertEqual(rings(book), [["a", "b", "c"]])

    def test_rings_that_lead_one_way_are_two(self):
        book = [
            ("c", ["d"], [], None), ("d", ["c"], [], None),
            ("a", ["b", "c"], [], None), ("b", ["a"], [], None),
        ]
        self.assertEqual(rings(book), [["a", "b"], ["c", "d"]])

    def test_order_within_and_of_rings(self):
        book = [
            ("zz", ["b"], [], None), ("b", ["aaa"], [], None), ("aaa", ["zz"], [], None),
            ("aa", ["aa"], [], None), ("y", ["xx"], [], None), ("xx", ["y"], [], None),
        ]
        self.assertEqual(rings(book), [["b", "zz", "aaa"], ["y", "xx"], ["aa"]])

    def test_leavers_and_gates_mean_nothing(self):
        book = [("a", ["b"], ["b", "p"], "p"), ("b", ["a"], ["a"], "a")]
        self.assertEqual(rings(book), [["a", "b"]])

    def test_people_are_in_no_ring(self):
        self.assertEqual(rings([("a", ["p"], ["a"], "a"), ("b", ["p", "a"], [], "p")]), [])

    def test_random_books_against_the_slow_way(self):
        for book, sender, names in plain.random_cases(2, 1500):
            with self.subTest(book=book):
                self.assertEqual(rings(book), plain.slow_rings(book))


class ReachedTest(unittest.TestCase):
    def test_no_entries(self):
        self.assertEqual(reached([], "p", ["q"]), (["q"], []))

    def test_pair_of_lists(self):
        told = reached([("a", ["p"], [], None)], "p", ["a"])
        self.assertIs(type(told), tuple)
        self.assertEqual([type(part) for part in told], [list, list])

    def test_each_gets_it_once_the_sender_too(self):
        book = [("a", ["p", "q"], [], None), ("b", ["q", "p"], [], None)]
        self.assertEqual(reached(book, "p", ["b", "q", "a"]), (["p", "q"], []))

    def test_people_in_order(self):
        book = [("a", ["zz", "b", "aa"], [], None)]
        self.assertEqual(reached(book, "s", ["ccc", "a", "y"]), (["b", "y", "aa", "zz", "ccc"], []))

    def test_gate_none(self):
        self.assertEqual(reached([("a", ["p"], [], None)], "s", ["a"]), (["p"], []))

    def test_gate_senders_own_name(self):
        book = [("a", ["p"], [], "s")]
        self.assertEqual(reached(book, "s", ["a"]), (["p"], []))
        self.assertEqual(reached(book, "p", ["a"]), ([], ["a"]))

    def test_gate_anothers_name(self):
        self.assertEqual(reached([("a", ["s"], [], "p")], "s", ["a"]), ([], ["a"]))

    def test_gate_list_that_stands_for_the_sender(self):
        book = [("a", ["p"], [], "in"), ("in", ["deep"], [], None), ("deep", ["s"], [], None)]
        self.assertEqual(reached(book, "s", ["a"]), (["p"], []))

    def test_gate_list_that_does_not_stand_for_the_sender(self):
        book = [("a", ["p"], [], "in"), ("in", ["q"], [], None)]
        self.assertEqual(reached(book, "s", ["a"]), ([], ["a"]))

    def test_gate_that_is_the_list_itself(self):
        book = [("a", ["p"], [], "a")]
        self.assertEqual(reached(book, "p", ["a"]), (["p"], []))
        self.assertEqual(reached(book, "q", ["a"]), ([], ["a"]))

    def test_gate_list_that_leads_to_a_sender_who_has_left_a_list_on_the_way(self):
        for left in ("in", "deep"):
            book = [
                ("a", ["p"], [], "in"),
                ("in", ["deep"], ["s"] if left == "in" else [], None),
                ("deep", ["s"], ["s"] if left == "deep" else [], None),
            ]
            self.assertEqual(reached(book, "s", ["a"]), ([], ["a"]))

    def test_gate_list_that_leads_to_the_sender_by_another_way_too(self):
        book = [
            ("a", ["p"], [], "in"), ("in", ["deep", "side"], [], None),
            ("deep", ["s"], ["s"], None), ("side", ["s"], [], None),
        ]
        self.assertEqual(reached(book, "s", ["a"]), (["p"], []))

    def test_gate_stands_for_the_sender_whatever_gates_its_lists_have(self):
        book = [("a", ["p"], [], "in"), ("in", ["deep"], [], "x"), ("deep", ["s"], [], "y")]
        self.assertEqual(reached(book, "s", ["a"]), (["p"], []))

    def test_sender_who_is_a_list(self):
        book = [
            ("a", ["p"], [], "s"), ("b", ["q"], [], "in"), ("c", ["r"], [], None),
            ("s", ["s", "t"], [], None), ("in", ["s"], [], None),
        ]
        self.assertEqual(reached(book, "s", ["a", "b", "c"]), (["r"], ["a", "b"]))

    def test_sender_who_has_left_the_list_may_send_to_it(self):
        self.assertEqual(reached([("a", ["p", "s"], ["s"], None)], "s", ["a"]), (["p"], []))

    def test_held_within(self):
        book = [("a", ["b", "p"], [], None), ("b", ["c", "q"], [], "x"), ("c", ["r"], [], "x")]
        self.assertEqual(reached(book, "s", ["a"]), (["p"], ["b"]))
        self.assertEqual(reached(book, "s", ["a", "c"]), (["p"], ["b", "c"]))
        self.assertEqual(reached(book, "x", ["a"]), (["p", "q", "r"], []))

    def test_held_lists_in_order(self):
        book = [(name, ["p"], [], "x") for name in ("zz", "aaa", "y", "bb")]
        self.assertEqual(reached(book, "s", ["aaa", "zz", "bb", "y"]), ([], ["y", "bb", "zz", "aaa"]))

    def test_held_whoever_has_left_what(self):
        # All who might get it have left the list ahead: the letter comes to the list behind it all the same.
        book = [("a", ["b"], ["p", "q", "b"], None), ("b", ["p", "q"], ["p", "q"], "x")]
        self.assertEqual(reached(book, "s", ["a"]), ([], ["b"]))

    def test_around_a_list_that_holds_it(self):
        book = [("a", ["b", "c"], [], None), ("b", ["p"], [], "x"), ("c", ["p"], [], None)]
        self.assertEqual(reached(book, "s", ["a"]), (["p"], ["b"]))

    def test_around_a_list_that_holds_it_but_by_one_that_was_left(self):
        book = [("a", ["b", "c"], [], None), ("b", ["p", "q"], [], "x"), ("c", ["p", "q"], ["p"], None)]
        self.assertEqual(reached(book, "s", ["a"]), (["q"], ["b"]))

    def test_sent_to_somebody_who_has_left_everything(self):
        book = [("a", ["p", "q"], ["p"], None)]
        self.assertEqual(reached(book, "s", ["a"]), (["q"], []))
        self.assertEqual(reached(book, "s", ["a", "p"]), (["p", "q"], []))

    def test_rings(self):
        book = [("a", ["b", "a"], ["q"], None), ("b", ["a", "p", "q"], [], None)]
        self.assertEqual(reached(book, "s", ["a"]), (["p"], []))
        self.assertEqual(reached(book, "s", ["b"]), (["p", "q"], []))

    def test_random_books_against_the_slow_way(self):
        for book, sender, names in plain.random_cases(3, 3000):
            with self.subTest(book=book, sender=sender, names=names):
                self.assertEqual(reached(book, sender, names), plain.slow_reached(book, sender, names))


class LargeBooksTest(unittest.TestCase):
    """Nothing here may need calls within calls, however long the ways are."""

    def named(self, at):
        letters = ""
        for _ in range(4):
            letters += "abcdefghij"[at % 10]
            at //= 10
        return "l" + letters

    def test_long_ring(self):
        many = 3000
        book = [(self.named(at), [self.named((at + 1) % many)], [], None) for at in range(many)]
        book[-1][1].append("p")
        self.assertEqual(people(book, self.named(0)), ["p"])
        self.assertEqual(rings(book), [plain.ordered(entry[0] for entry in book)])
        self.assertEqual(reached(book, "s", [self.named(5)]), (["p"], []))

    def test_long_row_without_a_ring(self):
        many = 3000
        book = [(self.named(at), [self.named(at + 1)], [], None) for at in range(many)]
        self.assertEqual(rings(book), [])
        self.assertEqual(people(book, self.named(0)), [self.named(many)])

    def test_many_leavers_of_many_lists(self):
        many = 600
        book = [(self.named(at), [self.named(at + 1), "p" + self.named(at)], ["p" + self.named(at + 1)], None)
                for at in range(many)]
        self.assertEqual(people(book, self.named(0)), plain.ordered(["p" + self.named(0), self.named(many)]))


class HandedInTest(unittest.TestCase):
    """What is handed in stays as it was, and what is told is new."""

    def setUp(self):
        self.book = [("a", ["b", "p", "a"], ["q"], None), ("b", ["q", "a"], [], "p")]
        self.before = copy.deepcopy(self.book)

    def test_people(self):
        told = people(self.book, "a")
        told.append("x")
        self.assertEqual(people(self.book, "a"), ["p"])
        self.assertEqual(self.book, self.before)

    def test_people_of_a_list_told_is_not_its_members(self):
        book = [("a", ["p", "q"], [], None)]
        people(book, "a").clear()
        self.assertEqual(book, [("a", ["p", "q"], [], None)])

    def test_rings(self):
        told = rings(self.book)
        told[0].append("x")
        told.append(["y"])
        self.assertEqual(rings(self.book), [["a", "b"]])
        self.assertEqual(self.book, self.before)

    def test_reached(self):
        names = ["q", "a"]
        told = reached(self.book, "s", names)
        self.assertEqual(told, (["p", "q"], ["b"]))
        told[0].append("x")
        told[1].append("y")
        self.assertEqual(reached(self.book, "s", names), (["p", "q"], ["b"]))
        self.assertEqual(self.book, self.before)
        self.assertEqual(names, ["q", "a"])

    def test_changed_book_is_looked_at_anew(self):
        self.assertEqual(people(self.book, "a"), ["p"])
        self.book[0][2].clear()
        self.assertEqual(people(self.book, "a"), ["p", "q"])
        self.book.clear()
        self.assertEqual(people(self.book, "a"), ["a"])


if __name__ == "__main__":
    unittest.main()
