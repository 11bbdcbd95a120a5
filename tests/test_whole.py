"""What holds over the whole program: nothing handed in is changed or kept, and what is told is new."""

import copy
import unittest

from listpost.answers import Answer, Cut, Named, Shut, Way
from listpost.books import people, reached, rings
from listpost.changes import answer, apart, drawn_in, split_off
from listpost.post import Post
from listpost.texts import read, written
from listpost.ways import cut, why
from tests import plain

BOOK = [
    ("a", ["b", "p", "c"], ["x"], None),
    ("b", ["q", "a", "p"], ["q"], "s"),
    ("c", ["p", "r"], [], None),
    ("d", ["d", "p"], ["d"], "a"),
    ("e", [], [], None),
]
OTHER = [("a", ["p"], [], None)]
NAMES = ["a", "d", "e"]


def answer_parts(thing):
    """An answer as its fields, so that it can be compared and searched."""
    return [thing.__class__.__name__, vars(thing)] if isinstance(thing, Answer) else thing


def all_lists(thing):
    """All lists within a thing, this one too."""
    thing = answer_parts(thing)
    if isinstance(thing, list):
        yield thing
    if isinstance(thing, (list, tuple)):
        for part in thing:
            yield from all_lists(part)
    if isinstance(thing, dict):
        for part in thing.values():
            yield from all_lists(part)


def asks():
    """Each function, with things that it may be handed."""
    yield people, (BOOK, "a")
    yield people, (BOOK, "nobody")
    yield rings, (BOOK,)
    yield reached, (BOOK, "s", NAMES)
    yield reached, (BOOK, "t", NAMES)
    for ask in (why, cut):
        for person in ("p", "q", "x", "r", "nobody"):
            yield ask, (BOOK, "t", NAMES, person)
            yield ask, (BOOK, "s", ["a", "p"], person)
    yield apart, (BOOK, OTHER)
    yield apart, (BOOK, BOOK)
    yield drawn_in, (BOOK, "c")
    yield drawn_in, (BOOK, "e")
    yield split_off, (BOOK, "a", ["p", "b"], "n")
    yield split_off, (BOOK, "d", ["p"], "n")
    yield answer, ("s", NAMES, "p")
    yield answer, ("s", NAMES, "a")
    yield written, (BOOK,)
    yield read, ("a: p, q; left r; by s\nb:\n",)
    yield Way, (NAMES,)
    yield Shut, (NAMES,)
    yield Cut, ([("a", "b")], [["a", "b"], ["c"]])
    for told in (Way(["a", "p"]), Shut(["c"]), Cut([("c", "r")], [["c", "r"]]), Named()):
        yield told.shows, (BOOK, "t", ["a", "c"], "r")
    for method in (Post(BOOK).people, Post(BOOK).got):
        yield method, ("a",)
    for method in (Post(BOOK).book, Post(BOOK).held):
        yield method, ()
    post = Post(BOOK)
    post.send("t", NAMES)
    yield post.letter, (0,)
    yield post.held, ()
    yield post.book, ()


class WholeTest(unittest.TestCase):
    def test_nothing_handed_in_is_changed(self):
        for ask, things in asks():
            before = copy.deepcopy(things)
            with self.subTest(ask=ask, things=things):
                ask(*things)
                self.assertEqual(things, before)

    def test_what_is_told_has_no_list_of_what_was_handed_in(self):
        for ask, things in asks():
            handed = {id(found) for found in all_lists(things)}
            with self.subTest(ask=ask, things=things):
                told = ask(*things)
                own = [id(found) for found in all_lists(told)]
                self.assertEqual(handed & set(own), set())
                self.assertEqual(len(own), len(set(own)))

    def test_what_is_told_may_be_changed(self):
        for ask, things in asks():
            with self.subTest(ask=ask, things=things):
                told = ask(*things)
                before = copy.deepcopy(answer_parts(told))
                for found in list(all_lists(told)):
                    found.append("more")
                    found.reverse()
                self.assertEqual(answer_parts(ask(*things)), before)

    def test_what_was_handed_in_may_be_changed_behind_the_call(self):
        for ask, things in asks():
            mine = copy.deepcopy(things)
            with self.subTest(ask=ask, things=things):
                told = ask(*mine)
                before = copy.deepcopy(answer_parts(told))
                for found in list(all_lists(mine)):
                    found.clear()
                self.assertEqual(answer_parts(told), before)

    def test_kinds_of_what_is_told(self):
        met, held = reached(BOOK, "t", NAMES)
        self.assertEqual((type(reached(BOOK, "t", NAMES)), type(met), type(held)), (tuple, list, list))
        self.assertIs(type(apart(BOOK, OTHER)), tuple)
        self.assertIs(type(written(BOOK)), str)
        for book in (drawn_in(BOOK, "c"), split_off(BOOK, "a", ["p"], "n"), read(written(BOOK)), Post(BOOK).book()):
            self.assertIs(type(book), list)
            for entry in book:
                self.assertEqual([type(entry), type(entry[1]), type(entry[2])], [tuple, list, list])
        post = Post(BOOK)
        self.assertIs(type(post.send("t", ["b"])), int)
        self.assertEqual([type(post.letter(0)), type(post.letter(0)[1])], [tuple, list])
        self.assertEqual([type(post.held()), type(post.held()[0]), type(post.got("p"))], [list, tuple, list])

    def test_answers_are_of_the_told_classes(self):
        self.assertIs(type(why(BOOK, "t", ["a"], "p")), Way)
        self.assertIs(type(why(BOOK, "t", ["a"], "x")), Shut)
        self.assertIs(type(cut(BOOK, "t", ["a"], "p")), Cut)
        self.assertIs(type(cut(BOOK, "t", ["p"], "p")), Named)

    def test_arguments_by_name(self):
        self.assertEqual(why(book=OTHER, sender="s", names=["a"], person="p").names, ["a", "p"])
        self.assertEqual(cut(book=OTHER, sender="s", names=["a"], person="p").ways, [["a", "p"]])
        self.assertIsNone(apart(one=OTHER, other=OTHER))
        self.assertEqual(drawn_in(book=OTHER, name="a"), [])
        self.assertEqual(split_off(book=OTHER, name="a", members=["p"], fresh="n"),
                         [("a", ["n"], [], None), ("n", ["p"], [], None)])
        self.assertEqual(answer(sender="s", names=["a"], person="p"), ["s", "a"])
        self.assertEqual(written(book=OTHER), "a: p\n")
        self.assertEqual(read(text="a: p\n"), OTHER)
        self.assertEqual(people(book=OTHER, name="a"), ["p"])
        self.assertEqual(rings(book=OTHER), [])
        self.assertEqual(reached(book=OTHER, sender="s", names=["a"]), (["p"], []))

    def test_refused_things_stay_as_they_are(self):
        for ask, things in asks():
            for at, thing in enumerate(things):
                if isinstance(thing, list) and ask not in (Way, Shut, Cut):
                    wrong = copy.deepcopy(things)
                    wrong[at].append(None)
                    before = copy.deepcopy(wrong)
                    with self.subTest(ask=ask, things=wrong):
                        self.assertRaises(ValueError, ask, *wrong)
                        self.assertEqual(wrong, before)

    def test_books_of_many_kinds_stay_as_they_are(self):
        for book, sender, names in plain.random_cases(81, 60):
            before = copy.deepcopy((book, names))
            post = Post(book)
            number = post.send(sender, names)
            for _, name in post.held():
                post.let(number, name)
            for person in plain.PEOPLE:
                why(book, sender, names, person)
                cut(book, sender, names, person)
            apart(book, post.book())
            self.assertEqual((book, names), before)


if __name__ == "__main__":
    unittest.main()
