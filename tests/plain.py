"""What the tests share: books, wrong things, and the document's words done the slow way."""

import itertools
import random

LISTS = ["a", "b", "c", "dd"]
PEOPLE = ["p", "q", "rr"]
POOL = LISTS + PEOPLE

# Nothing here is a name.
NO_NAMES = [
    True, False, None, 0, 1, -7, 10 ** 40, "", " ", "A", "aB", "a1", "a b", " a", "a ", "a\n", "a_b", "a-b",
    "a" * 21, "b" * 5000, "`", "{", "~", b"a", b"", (), ("a",), ("a", "b"), [], ["a"], [["a"]], {}, {"a": 1}, {"a"},
    frozenset(["a"]), range(2), object(), str, len, ValueError("a"),
]

# Nothing here is a list of names, none twice; the empty list isn't here, because a book may have it.
NO_ROWS_OF_NAMES = [
    True, False, None, 0, 1, 10 ** 40, "", "a", "abc", b"a", (), ("a",), ("a", "b"), {}, {"a": 1}, {"a"}, range(0),
    object(), list, ["a", "a"], ["a", "b", "a"], ["b", "a", "a"], ["a", ["b"]], [("a",)], [["a"], ["a"]], [{}, {}],
    [None], [True], [1], [""], ["a", "B"], ["A", "b"], ["a", 1, "b"], ["a", "b", None], ["a", b"a"], ["a" * 21],
    ["a", ""], [{"a"}], [[]],
]

NO_LETTERS_NAMES = NO_ROWS_OF_NAMES + [[]]

# Nothing here is a list.
NO_BOOKS = [True, False, None, 0, 3, "", "a", b"", (), (("a", [], [], None),), {}, {0: ("a", [], [], None)}, {"a"},
            range(0), object(), list, ("a", [], [], None)]


def wrong_entries():
    """Things that are no entries, whatever stands ahead of them."""
    yield from [True, False, None, 0, 7, "", "a", "abcd", b"abcd", [], ["z", [], [], None], {}, {"z": []}, {"z"},
                (), ("z",), ("z", [], []), ("z", [], [], None, None), object(), range(4), tuple]
    for thing in NO_NAMES:
        yield (thing, [], [], None)
        if thing is not None:
            yield ("z", [], [], thing)
    for thing in NO_ROWS_OF_NAMES:
        yield ("z", thing, [], None)
        yield ("z", [], thing, None)


def place(name):
    return (len(name), name)


def ordered(names):
    return sorted(names, key=place)


def entry_of(book, name):
    for entry in book:
        if entry[0] == name:
            return entry
    return None


def is_list(book, name):
    return entry_of(book, name) is not None


def simple_ways(book, name, person, lets=lambda entry: True, ahead=()):
    """All ways from a name to somebody that have no name twice."""
    if is_list(book, person):
        return
    if name == person:
        yield [*ahead, name]
    entry = entry_of(book, name)
    if entry is None or person in entry[2] or not lets(entry):
        return
    for member in entry[1]:
        if member not in ahead and member != name:
            yield from simple_ways(book, member, person, lets, (*ahead, name))


def stands_for(book, name, person):
    return any(True for way in simple_ways(book, name, person))


def lets_in(book, entry, sender):
    gate = entry[3]
    if gate is None:
        return True
    if is_list(book, gate):
        return stands_for(book, gate, sender)
    return gate == sender


def letter_ways(book, sender, names, person):
    """All ways of a letter to somebody that have no name twice."""
    found = []
    for name in names:
        found.extend(simple_ways(book, name, person, lambda entry: lets_in(book, entry, sender)))
    return found


def all_names(book, more=()):
    names = set(more)
    for name, members, left, gate in book:
        names.update([name, *members, *left])
        if gate is not None:
            names.add(gate)
    return ordered(names)


def slow_people(book, name):
    return [person for person in all_names(book, [name]) if stands_for(book, name, person)]


def slow_reached(book, sender, names):
    met = [person for person in all_names(book, names) if letter_ways(book, sender, names, person)]
    come = set()

    def arrive(name):
        if name not in come:
            come.add(name)
            entry = entry_of(book, name)
            if entry is not None and lets_in(book, entry, sender):
                for member in entry[1]:
                    arrive(member)

    for name in names:
        arrive(name)
    held = [name for name in come if is_list(book, name) and not lets_in(book, entry_of(book, name), sender)]
    return (met, ordered(held))


def slow_rings(book):
    leads = {(entry[0], member) for entry in book for member in entry[1] if is_list(book, member)}
    lists = [entry[0] for entry in book]
    for middle, one, other in itertools.product(lists, repeat=3):
        if (one, middle) in leads and (middle, other) in leads:
            leads.add((one, other))
    found = []
    for one in ordered(lists):
        ring = [other for other in ordered(lists) if (one, other) in leads and (other, one) in leads]
        if ring and ring not in found:
            found.append(ring)
    return found


def random_book(chance):
    """A small book with rings, leavers and gates of all kinds."""
    lists = chance.sample(LISTS, chance.randint(0, len(LISTS)))
    book = []
    for name in lists:
        members = chance.sample(POOL, chance.randint(0, 5))
        left = chance.sample(POOL, chance.choice([0, 0, 0, 1, 2, 3]))
        gate = chance.choice([None, None, None, chance.choice(POOL)])
        book.append((name, members, left, gate))
    return book


def random_cases(seed, many):
    """Books, each with a sender and names, the same ones at each run."""
    chance = random.Random(seed)
    for _ in range(many):
        yield random_book(chance), chance.choice(POOL), chance.sample(POOL, chance.randint(1, 3))
