"""Two books compared."""

import copy
import itertools
import string
import unittest

from listpost.books import reached
from listpost.changes import apart
from listpost.errors import BadBook
from tests import plain

SENDERS = plain.ordered([*string.ascii_lowercase, *[name for name in plain.POOL if len(name) > 1], "aa"])


def slow_apart(one, other):
    """The first letter that parts the books, of all names that could matter for small books."""
    for name in plain.ordered([*plain.POOL, "d", "zz"]):
        for sender in SENDERS:
            if reached(one, sender, [name])[0] != reached(other, sender, [name])[0]:
                return (name, sender)
    return None


def changed(book, chance):
    """The book with one thing in it that is another."""
    book = copy.deepcopy(book)
    if not book or chance.random() < 0.1:
        return plain.random_book(chance)
    at = chance.randrange(len(book))
    name, members, left, gate = book[at]
    what = chance.choice(["members", "left", "gate", "gate", "turn", "gone"])
    if what == "members":
        members = list(set(members) ^ {chance.choice(plain.POOL)})
    elif what == "left":
        left = list(set(left) ^ {chance.choice(plain.POOL)})
    elif what == "gate":
        gate = chance.choice([None, *plain.POOL])
    elif what == "turn":
        members = members[::-1]
        left = left[::-1]
    book[at] = (name, members, left, gate)
    if what == "gone":
        book.pop(at)
    chance.shuffle(book)
    return book


class ApartTest(unittest.TestCase):
    def both(self, one, other, told):
        self.assertEqual(apart(one, other), told)
        self.assertEqual(apart(other, one), told)

    def alike(self, one, other):
        self.assertIsNone(apart(one, other))
        self.assertIsNone(apart(other, one))

    def test_no_entries(self):
        self.alike([], [])

    def test_one_book_twice(self):
        for book, sender, names in plain.random_cases(41, 60):
            with self.subTest(book=book):
                self.alike(book, copy.deepcopy(book))
                self.assertIsNone(apart(book, book))

    def test_another_turn(self):
        one = [("a", ["p", "b", "q"], ["r", "s"], None), ("b", ["t", "r"], [], "a")]
        other = [("b", ["r", "t"], [], "a"), ("a", ["q", "p", "b"], ["s", "r"], None)]
        self.alike(one, other)

    def test_other_members_but_the_same_people(self):
        self.alike([("a", ["p", "q"], [], None), ("b", ["a", "p"], [], None)],
                   [("a", ["b", "q"], [], None), ("b", ["p", "a"], [], None)])
        self.alike([("a", ["p", "q"], ["q"], None)], [("a", ["a", "p"], [], None)])
        self.alike([("a", ["p"], ["x", "a"], None)], [("a", ["p"], [], None)])
        self.alike([("a", [], [], None)], [("a", ["a"], ["p"], "p")])

    def test_member_changed(self):
        self.both([("b", ["p"], [], None)], [("b", ["p", "q"], [], None)], ("b", "a"))
        self.both([("b", ["p"], [], "q")], [("b", ["r"], [], "q")], ("b", "q"))
        self.both([("b", ["p"], [], None), ("a", ["b"], [], "x")], [("b", [], [], None), ("a", ["b"], [], "x")],
                  ("a", "x"))

    def test_leaver_changed(self):
        self.both([("b", ["p"], ["p"], None)], [("b", ["p"], [], None)], ("b", "a"))
        self.both([("b", ["c"], ["p"], None), ("c", ["p"], [], None)], [("b", ["c"], [], None), ("c", ["p"], [], None)],
                  ("b", "a"))

    def test_gate_changed(self):
        self.both([("b", ["p"], [], None)], [("b", ["p"], [], "q")], ("b", "a"))
        self.both([("b", ["p"], [], None)], [("b", ["p"], [], "a")], ("b", "b"))
        self.both([("b", ["p"], [], "q")], [("b", ["p"], [], "r")], ("b", "q"))
        self.both([("b", ["p"], [], "b")], [("b", ["p"], [], "p")], None)
        self.both([("b", ["p"], [], "b")], [("b", ["p"], [], "q")], ("b", "p"))
        self.both([("b", [], [], None)], [("b", [], [], "q")], None)

    def test_gate_that_is_a_list_in_one_book_alone(self):
        one = [("b", ["p"], [], "g")]
        other = [("b", ["p"], [], "g"), ("g", ["q"], [], None)]
        self.both(one, other, ("b", "g"))
        self.both([("x", ["p"], [], "g")], [("x", ["p"], [], "g"), ("g", ["g"], [], None)], ("g", "a"))

    def test_list_in_one_book_alone(self):
        self.both([("b", [], [], None)], [], ("b", "a"))
        self.both([("b", [], [], "x")], [], ("b", "a"))
        self.both([("b", ["b"], [], None)], [], ("b", "a"))
        self.both([("b", ["p"], ["b"], None)], [("c", [], [], None)], ("b", "a"))
        self.both([("zz", ["p"], [], None)], [("aaa", [], [], None)], ("zz", "a"))

    def test_first_name_ahead_of_first_sender(self):
        one = [("b", ["p"], [], "y"), ("c", ["p"], [], None)]
        other = [("b", ["q"], [], "y"), ("c", ["q"], [], None)]
        self.both(one, other, ("b", "y"))
        one = [("bb", ["p"], [], None), ("c", ["p"], [], "zzz")]
        other = [("bb", ["q"], [], None), ("c", ["q"], [], "zzz")]
        self.both(one, other, ("c", "zzz"))

    def test_senders_in_neither_book(self):
        # All letters from a to e are let in, so that f is the first who isn't.
        lists = [("x", ["p", *"abcde"], [], None), ("b", ["p"], [], "x")]
        self.both(lists[:1] + [("y", ["p"], [], "x")], lists[:1] + [("y", ["p"], [], None)], ("y", "f"))
        all_letters = [("xx", list(string.ascii_lowercase), [], None)]
        self.both([*all_letters, ("yy", ["p"], [], "xx")], [*all_letters, ("yy", ["p"], [], None)], ("yy", "aa"))

    def test_sender_who_is_a_list_in_one_book(self):
        one = [("a", [], [], None), ("b", ["p"], [], "a")]
        other = [("a", ["q"], [], None), ("b", ["p"], [], "a")]
        self.both(one, other, ("a", "a"))
        # By the one book a is let in to bb by its own name, by the other nobody is.
        self.both([("bb", ["p"], [], "a")], [("bb", ["p"], [], "a"), ("zz", [], [], None), ("a", [], [], None)],
                  ("a", "a"))

    def test_name_that_is_somebody_in_one_book(self):
        one = [("b", ["c"], [], None), ("c", ["p"], [], None)]
        self.both(one, [("b", ["c"], [], None)], ("b", "a"))
        self.both(one, [("b", ["p"], [], None)], ("c", "a"))

    def test_gate_by_a_list_whose_people_are_others(self):
        one = [("g", ["p", "q"], [], None), ("b", ["x"], [], "g")]
        other = [("g", ["p"], [], None), ("b", ["x"], [], "g")]
        self.both(one, other, ("b", "q"))
        self.both([("g", ["p", "q"], ["q"], None), ("b", ["x"], [], "g")], other, None)
        self.both([("g", ["p", "q"], [], "nobody"), ("b", ["x"], [], "g")],
                  [("g", ["p", "r"], [], "nobody"), ("b", ["x"], [], "g")], ("b", "q"))

    def test_random_books(self):
        chance = plain.random.Random(42)
        alike = 0
        for _ in range(450):
            one = plain.random_book(chance)
            other = changed(one, chance)
            with self.subTest(one=one, other=other):
                told = slow_apart(one, other)
                alike += told is None
                self.both(one, other, told)
        self.assertTrue(100 < alike < 350)

    def test_random_unlike_books(self):
        chance = plain.random.Random(43)
        for _ in range(100):
            one, other = plain.random_book(chance), plain.random_book(chance)
            with self.subTest(one=one, other=other):
                self.both(one, other, slow_apart(one, other))

    def test_long_chains(self):
        names = ["".join(letters) for letters in itertools.islice(itertools.product("abcdef", repeat=5), 1500)]
        chain = [(name, [member, "p" + name], [], None) for name, member in zip(names, [*names[1:], "q"])]
        self.alike(chain, chain[::-1])
        other = [*chain[:-1], (names[-1], ["q"], [], None)]
        self.both(chain, other, (names[0], "a"))
        left = [(names[0], chain[0][1], ["q"], None), *chain[1:]]
        self.both(chain, left, (names[0], "a"))
        barred = [*chain[:700], (names[700], chain[700][1], [], names[1400]), *chain[701:]]
        self.both(chain, barred, (names[0], "a"))
        last = [*chain[:-1], (names[-1], ["q"], [], names[-1])]
        short = [*chain[:-1], (names[-1], ["q"], [], "q")]
        self.alike(last, short)

    def test_long_chains_both_ways_and_rings(self):
        names = ["".join(letters) for letters in itertools.islice(itertools.product("abcdef", repeat=5), 600)]
        ring = [(name, [ahead, behind, "p" + name], ["p" + ahead], None)
                for ahead, name, behind in zip([names[-1], *names], names, [*names[1:], names[0]])]
        self.alike(ring, ring[::-1])
        other = [*ring[:300], (names[300], ring[300][1][:2], [], None), *ring[301:]]
        self.both(ring, other, (names[0], "a"))

    def test_chain_of_gates(self):
        names = ["".join(letters) for letters in itertools.islice(itertools.product("abcd", repeat=4), 150)]
        book = [(name, [behind, "p" + name], [], behind) for name, behind in zip(names, names[1:])]
        self.alike(book, book[::-1])
        other = [*book[:-1], (book[-1][0], book[-1][1], [], None)]
        # The gates of all other lists stand for the last list's person, who so comes up to the last list.
        self.both(book, other, (names[0], "p" + names[-2]))

    def test_refusals(self):
        good = [("a", ["p"], [], None)]
        for thing in plain.NO_BOOKS:
            with self.subTest(thing=thing):
                self.assertRaises(BadBook, apart, thing, good)
                self.assertRaises(BadBook, apart, good, thing)
        for entry in plain.wrong_entries():
            for books in (([*good, entry], good), (good, [*good, entry])):
                with self.subTest(entry=entry):
                    with self.assertRaises(BadBook) as caught:
                        apart(*books)
                    self.assertEqual(caught.exception.row, 1)

    def test_first_book_is_refused_first(self):
        with self.assertRaises(BadBook) as caught:
            apart([("a", [], [], None), None], [None])
        self.assertEqual(caught.exception.row, 1)


if __name__ == "__main__":
    unittest.main()
