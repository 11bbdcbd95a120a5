"""Books as texts."""

import re
import unittest

from listpost.errors import BadBook, BadRow, BadText
from listpost.texts import read, written
from tests import plain

# A row as the document's words tell it, once more and in another way than the program does it.
NAME = r" *([a-z]{1,20}) *"
NAMES = r"( *[a-z]{1,20} *(?:, *[a-z]{1,20} *)*)"
ROW = re.compile(rf"{NAME}: *{NAMES}?(?:; *left {NAMES})?(?:; *by {NAME})?")


def slow_read(text):
    """The book, or the number of the first wrong row."""
    book = []
    for number, row in enumerate(re.split("\n", text)):
        if re.fullmatch(" *(#.*)?", row):
            continue
        found = ROW.fullmatch(row)
        if found is None:
            return number
        members, left = [re.findall("[a-z]+", found[part] or "") for part in (2, 3)]
        if len(set(members)) < len(members) or len(set(left)) < len(left):
            return number
        if plain.is_list(book, found[1]):
            return number
        book.append((found[1], members, left, found[4]))
    return book


class WrittenTest(unittest.TestCase):
    def test_no_entries(self):
        self.assertEqual(written([]), "")

    def test_each_form(self):
        for entry, row in (
            (("a", [], [], None), "a:\n"),
            (("a", ["p"], [], None), "a: p\n"),
            (("a", ["p", "bb", "a"], [], None), "a: p, bb, a\n"),
            (("a", [], ["p"], None), "a:; left p\n"),
            (("a", [], ["q", "p"], None), "a:; left q, p\n"),
            (("a", [], [], "p"), "a:; by p\n"),
            (("a", [], ["q", "p"], "g"), "a:; left q, p; by g\n"),
            (("a", ["x", "y"], ["q", "p"], None), "a: x, y; left q, p\n"),
            (("a", ["x", "y"], [], "g"), "a: x, y; by g\n"),
            (("a", ["x", "y"], ["q", "p"], "a"), "a: x, y; left q, p; by a\n"),
            (("left", ["by", "left"], ["left", "by"], "by"), "left: by, left; left left, by; by by\n"),
        ):
            with self.subTest(entry=entry):
                self.assertEqual(written([entry]), row)
                self.assertEqual(read(row), [entry])

    def test_entries_in_their_turn(self):
        self.assertEqual(written([("b", [], [], None), ("a", ["q"], [], "b"), ("aa", [], ["p"], None)]),
                         "b:\na: q; by b\naa:; left p\n")

    def test_written_and_read_again(self):
        for book, sender, names in plain.random_cases(61, 200):
            with self.subTest(book=book):
                self.assertEqual(read(written(book)), book)

    def test_refusals(self):
        for thing in plain.NO_BOOKS:
            self.assertRaises(BadBook, written, thing)
        for entry in plain.wrong_entries():
            with self.subTest(entry=entry):
                with self.assertRaises(BadBook) as caught:
                    written([("a", [], [], None), entry])
                self.assertEqual(caught.exception.row, 1)


class ReadTest(unittest.TestCase):
    def refused(self, text, row):
        with self.subTest(text=text):
            with self.assertRaises(BadRow) as caught:
                read(text)
            self.assertEqual(caught.exception.row, row)

    def test_no_rows(self):
        for text in ("", "\n", "\n\n\n", " ", "   \n \n", "#", "# a: b", "  # a\n#\n\n   #x: y; z"):
            with self.subTest(text=text):
                self.assertEqual(read(text), [])

    def test_last_row_without_a_line_feed(self):
        self.assertEqual(read("a: p\nb:"), [("a", ["p"], [], None), ("b", [], [], None)])

    def test_blanks_missing(self):
        self.assertEqual(read("a:p,q;left r,s;by t"), [("a", ["p", "q"], ["r", "s"], "t")])
        self.assertEqual(read("a:;left r;by t"), [("a", [], ["r"], "t")])
        self.assertEqual(read("a:;by t"), [("a", [], [], "t")])

    def test_blanks_more(self):
        row = "   a   :   p  ,  q   ;   left   r  ,   s  ;   by    t   "
        self.assertEqual(read(row), [("a", ["p", "q"], ["r", "s"], "t")])
        self.assertEqual(read(f"\n{row}\n"), [("a", ["p", "q"], ["r", "s"], "t")])
        self.assertEqual(read("  a  :  "), [("a", [], [], None)])
        self.assertEqual(read(" a : ; left b ; by c "), [("a", [], ["b"], "c")])

    def test_blanks_at_each_place_where_they_may_stand(self):
        parts = ["a", ":", "p", ",", "q", ";", "left ", "r", ",", "s", ";", "by ", "t"]
        told = [("a", ["p", "q"], ["r", "s"], "t")]
        for at in range(len(parts) + 1):
            for blanks in (" ", "   "):
                self.assertEqual(read("".join(parts[:at]) + blanks + "".join(parts[at:])), told)

    def test_words_as_names(self):
        self.assertEqual(read("left:left"), [("left", ["left"], [], None)])
        self.assertEqual(read("by: by, left;left left,by;by left"), [("by", ["by", "left"], ["left", "by"], "left")])
        self.assertEqual(read("left:;by by"), [("left", [], [], "by")])
        self.assertEqual(read("a: left; by left"), [("a", ["left"], [], "left")])
        self.assertEqual(read("a:; left left; by by"), [("a", [], ["left"], "by")])

    def test_rows_that_do_not_count_still_have_numbers(self):
        text = "# top\n\na: p\n   \n  # more: of; this\nb: a\n"
        self.assertEqual(read(text), [("a", ["p"], [], None), ("b", ["a"], [], None)])
        self.refused(text + "c", 6)
        self.refused(text + "\n\n#\nc\n", 9)
        self.refused("\n \n#\n?", 3)

    def test_wrong_rows(self):
        for row in (
            "a", "a p", ":", ": p", "::", "a::", "a: p:", "a: p: q", "a; p", "a:p q", "a: p q, r", "a b: p", "a,b: p",
            "a:,", "a: ,p", "a: p,", "a: p,,q", "a: p, ,q", "a:;", "a: p;", "a: ;", "a:;;", "a: p;;by q", "a:; p",
            "a:; left", "a:; left ", "a:; left;", "a:; leftp", "a:; left,p", "a:; left p,", "a:; left ,p",
            "a:; left p,,q",
            "a:; left p q", "a:; left p;", "a:; left p; left q", "a:; left p, q; r", "a:; Left p", "a:; lef t p",
            "a:; by", "a:; by ", "a:; byp", "a:; by p, q", "a:; by p q", "a:; by p;", "a:; by p; by q", "a:; by ,",
            "a:; by p; left q", "a: p; left q; by r; s", "a: p; left q; by r;", "a: p # more", "a: p; # more",
            "A: p", "a: P", "a1: p", "a: p1", "a: -p", "a: p.", "a:; left P", "a:; by P", "?", "a?: p",
            "a: p left q", "a: p by q", "a: p, by q", "a; left p", "a by q", "left p; a:", "; a:", "a:\\", "~: p",
            "a: ~",
            "b" * 21 + ":", "a: " + "b" * 21, "a:; left " + "b" * 21, "a:; by " + "b" * 21,
            "a: p, p", "a: p, q, p", "a:; left p, p", "a: x; left q, p, q; by x", "a:p,p;left x",
            "\ta: p", "a:\tp", "a: p\r", "a:; left\tp", "\t", "a: p\f", "\v", "\r",
        ):
            self.refused(row, 0)
            self.refused(f"b: p\n{row}\nc: p", 1)
            self.refused(f"\n#\nb:\n{row}\nnone\n", 3)
            self.refused(f"  {row}  ", 0)

    def test_names_of_all_lengths(self):
        for many in (1, 2, 19, 20):
            name = "b" * many
            self.assertEqual(read(f"{name}: {name}; left {name}; by {name}"), [(name, [name], [name], name)])

    def test_one_name_twice(self):
        self.refused("a:\na:", 1)
        self.refused("a: p\nb: q\n\n a : r\n", 3)
        self.refused("a:\nb:\nb:\na:", 2)

    def test_first_wrong_row(self):
        self.refused("a:\nb: p, p\na:\n?", 1)
        self.refused("a:\na:\nb: p, p\n", 1)

    def test_member_who_has_left_and_own_gate_are_right(self):
        self.assertEqual(read("a: a, p; left p, a; by a"), [("a", ["a", "p"], ["p", "a"], "a")])

    def test_no_text(self):
        for thing in (None, True, False, 0, 7, b"", b"a:", [], ["a:"], (), ("a:",), {}, {"a:"}, object(), str,
                      range(2)):
            with self.subTest(thing=thing):
                self.assertRaises(BadText, read, thing)

    def test_random_texts(self):
        chance = plain.random.Random(62)
        parts = ["a", "b", "left", "by", "left ", "by ", "; left ", "; by ", "c", " ", ":", ",", ";", "#", "\n", ", ",
                 ": ", "\na:", "\nb: "]
        right = 0
        for _ in range(6000):
            text = chance.choice(["", "a:", "a: b"]) + "".join(chance.choices(parts, k=chance.randint(0, 7)))
            told = slow_read(text)
            if isinstance(told, int):
                self.refused(text, told)
            else:
                right += 1
                with self.subTest(text=text):
                    self.assertEqual(read(text), told)
        self.assertGreater(right, 500)

    def test_random_books_with_random_blanks(self):
        chance = plain.random.Random(63)

        def loosened(found):
            return " " * chance.randint(0, 2) + found[0].strip(" ") + " " * chance.randint(0, 2)

        for book, sender, names in plain.random_cases(64, 200):
            rows = [re.sub(" ?[:,;] ?", loosened, row) for row in written(book).split("\n")]
            more = [chance.choice(["", "  ", "# x", " #a:"]) for _ in range(3)]
            with self.subTest(rows=rows):
                self.assertEqual(read("\n".join([more[0], *rows, more[1], more[2]])), book)

    def test_large_text(self):
        rows = [first + second + third for first in "abcdefgh" for second in "abcdefgh" for third in "abcdefgh"]
        text = "".join([f"{row}: {', '.join(rows)}\n" for row in rows])
        self.assertEqual(written(read(text)), text)


if __name__ == "__main__":
    unittest.main()
