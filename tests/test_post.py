"""A post: deeds that change the book, and letters that are held, let on and dropped."""

import copy
import unittest

from listpost import errors
from listpost.books import people
from listpost.errors import BadBook, BadName, BadNames, NoLetter, NoList, NoMember, NotHeld, Twice
from listpost.post import Post
from tests import plain

METHODS = ("book people found enter strike leave come_back bar send held let drop got letter twin").split()
NO_NUMBERS = [True, False, None, -1, -2, 10 ** 30, -10 ** 30, "", "0", "a", b"0", [], [0], (), (0,), {}, {0: 0}, {0},
              object(), range(1), int]


def stance(post):
    """All that can be asked of a post."""
    book = post.book()
    names = plain.all_names(book, [*plain.POOL, "strange"])
    letters = []
    while True:
        try:
            letters.append(post.letter(len(letters)))
        except NoLetter:
            break
    return (book, [post.people(name) for name in names], post.held(), [post.got(name) for name in names], letters)


class SlowPost:
    """The document's words on letters, done with sets of all that ever happened."""

    def __init__(self):
        self.letters = []

    def go(self, book, letter):
        sender, names, lets, drops, holds, got = letter
        book = [(name, members, left, None if name in lets else gate) for name, members, left, gate in book]
        met, held = plain.slow_reached(book, sender, names)
        got.update(met)
        holds.update(set(held) - drops)

    def send(self, book, sender, names):
        self.letters.append((sender, list(names), set(), set(), set(), set()))
        self.go(book, self.letters[-1])

    def let(self, book, number, name):
        letter = self.letters[number]
        letter[4].remove(name)
        letter[2].add(name)
        self.go(book, letter)

    def drop(self, number, name):
        letter = self.letters[number]
        letter[4].remove(name)
        letter[3].add(name)

    def held(self):
        return [(number, name) for number, letter in enumerate(self.letters) for name in plain.ordered(letter[4])]

    def got(self, person):
        return [number for number, letter in enumerate(self.letters) if person in letter[5]]


class PostTest(unittest.TestCase):
    def refused(self, post, error, deed, *things):
        """The deed is refused, with this very error, and changes nothing."""
        before = stance(post)
        with self.assertRaises(error) as caught:
            getattr(post, deed)(*things)
        self.assertIs(type(caught.exception), error)
        self.assertEqual(stance(post), before)

    def done(self, post, deed, *things):
        self.assertIsNone(getattr(post, deed)(*things))


class MakingTest(PostTest):
    def test_methods(self):
        for name in METHODS:
            self.assertIn(name, vars(Post))

    def test_book_as_it_stands(self):
        for book, sender, names in plain.random_cases(71, 60):
            self.assertEqual(Post(book).book(), book)

    def test_people(self):
        for book, sender, names in plain.random_cases(72, 60):
            post = Post(book)
            for name in [*plain.POOL, "strange"]:
                self.assertEqual(post.people(name), people(book, name))

    def test_nothing_sent_yet(self):
        post = Post([("a", ["p"], [], None)])
        self.assertEqual((post.held(), post.got("p")), ([], []))
        self.refused(post, NoLetter, "letter", 0)

    def test_refused_books(self):
        for thing in plain.NO_BOOKS:
            self.assertRaises(BadBook, Post, thing)
        for entry in plain.wrong_entries():
            with self.subTest(entry=entry):
                with self.assertRaises(BadBook) as caught:
                    Post([("a", [], [], None), entry])
                self.assertEqual(caught.exception.row, 1)

    def test_people_refused(self):
        post = Post([("a", ["p"], [], None)])
        for thing in plain.NO_NAMES:
            self.refused(post, BadName, "people", thing)
            self.refused(post, BadName, "got", thing)


class BookDeedsTest(PostTest):
    def setUp(self):
        self.start = [("b", ["p", "q"], ["x", "y"], "g"), ("a", ["b"], [], None)]
        self.post = Post(self.start)

    def test_found(self):
        self.done(self.post, "found", "aa")
        self.done(self.post, "found", "p")
        self.assertEqual(self.post.book(), [*self.start, ("aa", [], [], None), ("p", [], [], None)])
        self.assertEqual(self.post.people("b"), ["q"])

    def test_enter(self):
        self.done(self.post, "enter", "b", "aa")
        self.done(self.post, "enter", "b", "a")
        self.done(self.post, "enter", "b", "b")
        self.assertEqual(self.post.book(), [("b", ["p", "q", "aa", "a", "b"], ["x", "y"], "g"), self.start[1]])
        self.assertEqual(self.post.people("a"), ["p", "q", "aa"])

    def test_strike(self):
        self.done(self.post, "strike", "b", "p")
        self.assertEqual(self.post.book(), [("b", ["q"], ["x", "y"], "g"), self.start[1]])
        self.done(self.post, "strike", "a", "b")
        self.assertEqual(self.post.book(), [("b", ["q"], ["x", "y"], "g"), ("a", [], [], None)])
        self.done(self.post, "enter", "b", "p")
        self.assertEqual(self.post.book()[0][1], ["q", "p"])

    def test_leave(self):
        self.done(self.post, "leave", "b", "p")
        self.done(self.post, "leave", "b", "a")
        self.assertEqual(self.post.book(), [("b", ["p", "q"], ["x", "y", "p", "a"], "g"), self.start[1]])
        self.assertEqual(self.post.people("a"), ["q"])

    def test_come_back(self):
        self.done(self.post, "come_back", "b", "x")
        self.assertEqual(self.post.book(), [("b", ["p", "q"], ["y"], "g"), self.start[1]])
        self.done(self.post, "leave", "b", "x")
        self.assertEqual(self.post.book()[0][2], ["y", "x"])

    def test_bar(self):
        self.done(self.post, "bar", "a", "b")
        self.assertEqual(self.post.book(), [self.start[0], ("a", ["b"], [], "b")])
        self.done(self.post, "bar", "b")
        self.done(self.post, "bar", "a", "strange")
        self.assertEqual(self.post.book(), [("b", ["p", "q"], ["x", "y"], None), ("a", ["b"], [], "strange")])
        self.post.bar(name="a", gate="a")
        self.assertEqual(self.post.book()[1], ("a", ["b"], [], "a"))
        self.done(self.post, "bar", "a")
        self.done(self.post, "bar", "a")
        self.assertEqual(self.post.book()[1], ("a", ["b"], [], None))

    def test_arguments_by_name(self):
        self.post.found(name="c")
        self.post.enter(name="c", member="p")
        self.post.leave(name="c", person="q")
        self.post.come_back(name="c", person="q")
        self.post.strike(name="c", member="p")
        number = self.post.send(sender="s", names=["b"])
        self.post.let(number=number, name="b")
        self.assertEqual(self.post.got(person="p"), [0])
        self.assertEqual(self.post.letter(number=0), ("s", ["b"]))
        self.post.send(sender="s", names=["b"])
        self.post.drop(number=1, name="b")
        self.assertEqual(self.post.people(name="c"), [])
        self.assertEqual(Post(book=self.start).book(), self.start)

    def test_no_names(self):
        for thing in plain.NO_NAMES:
            with self.subTest(thing=thing):
                self.refused(self.post, BadName, "found", thing)
                for deed in ("enter", "strike", "leave", "come_back", "bar"):
                    self.refused(self.post, BadName, deed, thing, "p")
                    if deed != "bar" or thing is not None:
                        self.refused(self.post, BadName, deed, "b", thing)
                    self.refused(self.post, BadName, deed, thing, thing)
                    self.refused(self.post, NoList, deed, "strange", thing)
                self.refused(self.post, BadName, "bar", thing)

    def test_no_list(self):
        for name in ("p", "x", "g", "strange", "aa"):
            for deed in ("enter", "strike", "leave", "come_back", "bar"):
                for other in ("p", "b", "strange", "", None):
                    self.refused(self.post, NoList, deed, name, other)
            self.refused(self.post, NoList, "bar", name)

    def test_twice(self):
        for name in ("a", "b"):
            self.refused(self.post, Twice, "found", name)
        for name in ("p", "q"):
            self.refused(self.post, Twice, "enter", "b", name)
        self.refused(self.post, Twice, "enter", "a", "b")
        for name in ("x", "y"):
            self.refused(self.post, Twice, "leave", "b", name)

    def test_no_member(self):
        for name in ("x", "y", "g", "a", "b", "strange"):
            self.refused(self.post, NoMember, "strike", "b", name)
        for name in ("p", "q", "g", "a", "b", "strange"):
            self.refused(self.post, NoMember, "come_back", "b", name)


class LettersTest(PostTest):
    def test_numbers_from_0_on(self):
        post = Post([("a", ["p"], [], None)])
        self.assertEqual([post.send("s", ["a"]), post.send("s", ["q"]), post.send("p", ["a", "q"])], [0, 1, 2])
        self.assertEqual((post.got("p"), post.got("q"), post.got("s")), ([0, 2], [1, 2], []))
        self.assertEqual([post.letter(number) for number in range(3)], [("s", ["a"]), ("s", ["q"]), ("p", ["a", "q"])])

    def test_refused_letters_take_no_number(self):
        post = Post([("a", ["p"], [], None)])
        post.send("s", ["a"])
        for thing in plain.NO_NAMES:
            self.refused(post, BadName, "send", thing, ["a"])
            self.refused(post, BadName, "send", thing, [])
        for thing in plain.NO_LETTERS_NAMES:
            self.refused(post, BadNames, "send", "s", thing)
        self.assertEqual(post.send("s", ["a"]), 1)

    def test_held_in_order(self):
        post = Post([("bb", ["p"], [], "s"), ("aa", ["p"], [], "s"), ("c", ["p"], [], "s"),
                     ("d", ["bb", "c"], [], None)])
        post.send("t", ["bb", "c", "aa"])
        post.send("s", ["bb"])
        post.send("t", ["d"])
        self.assertEqual(post.held(), [(0, "c"), (0, "aa"), (0, "bb"), (2, "c"), (2, "bb")])
        self.assertTrue(all(isinstance(pair, tuple) for pair in post.held()))

    def test_let(self):
        post = Post([("a", ["p", "b"], [], "s"), ("b", ["q"], [], "s")])
        self.assertEqual(post.send("t", ["a"]), 0)
        self.assertEqual((post.held(), post.got("p")), ([(0, "a")], []))
        self.done(post, "let", 0, "a")
        self.assertEqual((post.held(), post.got("p"), post.got("q")), ([(0, "b")], [0], []))
        self.done(post, "let", 0, "b")
        self.assertEqual((post.held(), post.got("p"), post.got("q")), ([], [0], [0]))

    def test_drop(self):
        post = Post([("a", ["p"], [], "s"), ("b", ["q"], [], "s")])
        post.send("t", ["a", "b"])
        self.done(post, "drop", 0, "a")
        self.assertEqual((post.held(), post.got("p"), post.got("q")), ([(0, "b")], [], []))
        self.done(post, "let", 0, "b")
        self.assertEqual((post.held(), post.got("p"), post.got("q")), ([], [], [0]))

    def test_dropped_list_does_not_hold_it_again(self):
        post = Post([("a", ["p"], [], "s"), ("b", ["a", "c"], [], "s"), ("c", ["q"], [], "s")])
        post.send("t", ["a", "b"])
        post.drop(0, "a")
        post.let(0, "b")
        self.assertEqual(post.held(), [(0, "c")])
        self.refused(post, NotHeld, "let", 0, "a")
        self.refused(post, NotHeld, "drop", 0, "a")

    def test_dropped_list_that_lets_in_later_is_gone_through(self):
        post = Post([("a", ["p"], [], "s"), ("b", ["q"], [], "s")])
        post.send("t", ["a", "b"])
        post.drop(0, "a")
        post.bar("a")
        self.assertEqual(post.got("p"), [])
        post.let(0, "b")
        self.assertEqual((post.got("p"), post.got("q")), ([0], [0]))

    def test_letters_do_not_share_what_is_let_or_dropped(self):
        post = Post([("a", ["p"], [], "s")])
        for _ in range(3):
            post.send("t", ["a"])
        post.let(1, "a")
        post.drop(0, "a")
        self.assertEqual((post.held(), post.got("p")), ([(2, "a")], [1]))
        self.assertEqual(post.send("t", ["a"]), 3)
        self.assertEqual((post.held(), post.got("p")), ([(2, "a"), (3, "a")], [1]))

    def test_it_goes_once_more_from_the_names_by_the_book_as_it_stands_then(self):
        post = Post([("top", ["a", "m"], [], None), ("a", ["p"], [], "s"), ("m", ["x"], [], None)])
        post.send("t", ["top"])
        post.enter("m", "y")
        post.enter("a", "q")
        post.strike("m", "x")
        post.leave("a", "p")
        self.assertEqual((post.got("x"), post.got("y")), ([0], []))
        post.let(0, "a")
        # Who had got it keeps it; who is reached now gets it, outside of the list at which it was let, too.
        self.assertEqual([post.got(name) for name in "pqxy"], [[], [0], [0], [0]])

    def test_list_let_counts_for_later_goings_whatever_its_gate_is_then(self):
        post = Post([("a", ["b"], [], "s"), ("b", ["p"], [], "s")])
        post.send("t", ["a"])
        post.let(0, "a")
        post.bar("a", "nobody")
        post.enter("a", "q")
        post.let(0, "b")
        self.assertEqual((post.held(), post.got("p"), post.got("q")), ([], [0], [0]))

    def test_other_lists_hold_it_still(self):
        post = Post([("a", ["p"], [], "s"), ("b", ["q"], [], "s"), ("top", ["a", "b"], [], None)])
        post.send("t", ["top"])
        post.strike("top", "b")
        post.bar("b")
        post.let(0, "a")
        # By the book the letter doesn't come to b any more, and b would let it in: it holds it as before.
        self.assertEqual((post.held(), post.got("q")), ([(0, "b")], []))
        post.let(0, "b")
        self.assertEqual((post.held(), post.got("q")), ([], []))

    def test_let_where_the_letter_comes_no_more(self):
        post = Post([("top", ["a"], [], None), ("a", ["p"], [], "s")])
        post.send("t", ["top"])
        post.strike("top", "a")
        post.let(0, "a")
        self.assertEqual((post.held(), post.got("p")), ([], []))
        post.enter("top", "a")
        self.assertEqual(post.got("p"), [])

    def test_new_lists_hold_it_too(self):
        post = Post([("a", ["p", "b"], [], "s")])
        post.send("t", ["a", "b"])
        self.assertEqual(post.got("b"), [0])
        post.found("b")
        post.bar("b", "s")
        post.let(0, "a")
        self.assertEqual((post.held(), post.got("b"), post.got("p")), ([(0, "b")], [0], [0]))

    def test_being_let_in_stands_for_nobody(self):
        # That the letter is let at the club makes its sender no member, so the gate by the club holds it still.
        post = Post([("club", ["p", "inner"], [], "s"), ("inner", ["q"], [], "club")])
        post.send("t", ["club"])
        post.let(0, "club")
        self.assertEqual((post.held(), post.got("p"), post.got("q")), ([(0, "inner")], [0], []))

    def test_people_get_it_once(self):
        post = Post([("a", ["p"], [], "s")])
        post.send("t", ["a", "p"])
        self.assertEqual(post.got("p"), [0])
        post.let(0, "a")
        self.assertEqual(post.got("p"), [0])

    def test_sender_gets_it_too(self):
        post = Post([("a", ["t"], [], "s")])
        post.send("t", ["a"])
        post.let(0, "a")
        self.assertEqual(post.got("t"), [0])

    def test_book_changed_without_let_changes_nothing_of_letters(self):
        post = Post([("a", ["p"], [], "s")])
        post.send("t", ["a"])
        post.bar("a")
        post.enter("a", "q")
        self.assertEqual((post.held(), post.got("p")), ([(0, "a")], []))

    def test_rings(self):
        post = Post([("a", ["b", "p"], [], "s"), ("b", ["a", "b", "q"], [], "s")])
        post.send("t", ["a"])
        post.let(0, "a")
        post.let(0, "b")
        self.assertEqual((post.held(), post.got("p"), post.got("q")), ([], [0], [0]))

    def test_no_letter(self):
        post = Post([("a", ["p"], [], "s")])
        post.send("t", ["a"])
        for number in [*NO_NUMBERS, 1, 2]:
            with self.subTest(number=number):
                self.refused(post, NoLetter, "letter", number)
                for deed in ("let", "drop"):
                    for name in ("a", "p", "", None):
                        self.refused(post, NoLetter, deed, number, name)

    def test_true_and_false_are_no_numbers(self):
        post = Post([("a", ["p"], [], "s")])
        for _ in range(3):
            post.send("t", ["a"])
        for number in (True, False):
            self.refused(post, NoLetter, "letter", number)
            self.refused(post, NoLetter, "let", number, "a")
            self.refused(post, NoLetter, "drop", number, "a")

    def test_not_held(self):
        post = Post([("a", ["p"], [], "s"), ("b", ["q"], [], None), ("c", [], [], "s")])
        post.send("t", ["a", "b"])
        for deed in ("let", "drop"):
            for name in [*plain.NO_NAMES, "p", "b", "c", "strange", "s", "t"]:
                with self.subTest(deed=deed, name=name):
                    self.refused(post, NotHeld, deed, 0, name)
        post.let(0, "a")
        self.refused(post, NotHeld, "let", 0, "a")
        self.refused(post, NotHeld, "drop", 0, "a")

    def test_all_errors_are_the_programs(self):
        self.assertTrue(issubclass(NotHeld, errors.PostError))


class RandomDeedsTest(PostTest):
    def random_deed(self, chance, post, slow):
        """Do one deed, most often one that isn't refused, and follow it in the slow way."""
        deed = chance.choice(["found", "enter", "strike", "leave", "come_back", "bar", "bar", "send", "let", "let",
                              "drop"])
        name, other = chance.choice(plain.POOL), chance.choice(plain.POOL)
        if deed == "send":
            names = chance.sample(plain.POOL, chance.randint(1, 3))
            self.assertEqual(post.send(name, names), len(slow.letters))
            slow.send(post.book(), name, names)
        elif deed in ("let", "drop") and post.held():
            number, name = chance.choice(post.held())
            self.done(post, deed, number, name)
            if deed == "let":
                slow.let(post.book(), number, name)
            else:
                slow.drop(number, name)
        elif deed in ("found", "enter", "strike", "leave", "come_back", "bar"):
            many = {"found": 1, "bar": chance.choice([1, 2])}.get(deed, 2)
            try:
                self.done(post, deed, *[name, other][:many])
            except (NoList, NoMember, Twice):
                pass

    def test_letters_as_by_the_documents_words(self):
        chance = plain.random.Random(73)
        for _ in range(80):
            post, slow = Post(plain.random_book(chance)), SlowPost()
            for _ in range(25):
                self.random_deed(chance, post, slow)
                self.assertEqual(post.held(), slow.held())
                for name in plain.POOL:
                    self.assertEqual(post.got(name), slow.got(name))
            for number, letter in enumerate(slow.letters):
                self.assertEqual(post.letter(number), (letter[0], letter[1]))


class TwinTest(PostTest):
    def made(self):
        post = Post([("a", ["p", "b"], ["x"], "s"), ("b", ["q"], [], "s"), ("c", ["r"], [], None), ("d", [], [], "s")])
        post.send("t", ["a", "d"])
        post.send("t", ["c"])
        post.let(0, "a")
        post.drop(0, "d")
        return post

    def test_stands_as_this_one(self):
        post = self.made()
        twin = post.twin()
        self.assertIsInstance(twin, Post)
        self.assertIsNot(twin, post)
        self.assertEqual(stance(twin), stance(post))
        # What was let and dropped is known to the twin, too.
        twin.enter("b", "d")
        twin.let(0, "b")
        self.assertEqual((twin.held(), twin.got("q"), twin.got("p")), ([], [0], [0]))

    def deeds(self):
        return [("found", "e"), ("enter", "a", "y"), ("strike", "a", "p"), ("leave", "a", "p"), ("come_back", "a", "x"),
                ("bar", "a"), ("bar", "c", "p"), ("send", "t", ["a", "b"]), ("let", 0, "b"), ("drop", 0, "b")]

    def test_stands_alone_behind(self):
        for deed, *things in self.deeds():
            with self.subTest(deed=deed):
                post = self.made()
                twin = post.twin()
                before = stance(post)
                getattr(twin, deed)(*things)
                self.assertNotEqual(stance(twin), before)
                self.assertEqual(stance(post), before)
                post = self.made()
                twin = post.twin()
                getattr(post, deed)(*things)
                self.assertNotEqual(stance(post), before)
                self.assertEqual(stance(twin), before)

    def test_twin_of_a_twin(self):
        post = self.made()
        again = post.twin().twin()
        before = stance(again)
        for deed, *things in self.deeds()[:-1]:
            getattr(post, deed)(*things)
        self.assertEqual(stance(again), before)
        self.assertEqual(again.send("s", ["a"]), 2)


class NothingKeptTest(PostTest):
    def test_book_handed_in(self):
        book = [("a", ["p"], ["x"], "s"), ("b", ["q"], [], None)]
        before = copy.deepcopy(book)
        post = Post(book)
        post.enter("a", "y")
        post.leave("a", "p")
        post.found("c")
        post.strike("b", "q")
        self.assertEqual(book, before)
        stands = stance(post)
        book[0][1].append("z")
        book[0][2].clear()
        book.pop()
        self.assertEqual(stance(post), stands)

    def test_names_handed_in(self):
        post = Post([("a", ["p"], [], "s")])
        names = ["a", "q"]
        post.send("t", names)
        self.assertEqual(names, ["a", "q"])
        names.append("r")
        names.remove("a")
        self.assertEqual(post.letter(0), ("t", ["a", "q"]))
        post.let(0, "a")
        self.assertEqual((post.got("p"), post.got("r")), ([0], []))

    def test_what_is_told(self):
        post = Post([("a", ["p"], ["x"], "s")])
        post.send("t", ["a", "q"])
        before = stance(post)
        book = post.book()
        book[0][1].append("z")
        book[0][2].clear()
        book.clear()
        post.people("a").clear()
        post.held().clear()
        post.got("q").append(7)
        post.letter(0)[1].clear()
        self.assertEqual(stance(post), before)
        post.let(0, "a")
        self.assertEqual(post.got("p"), [0])


if __name__ == "__main__":
    unittest.main()
