"""Answers of a letter and somebody, and whether they show what they tell."""

from listpost.books import all_links, check_sent, links_toward, spread
from listpost.names import are_rising, place


def is_way(row, links, names, person):
    """Whether a row of names is a way by the links, from one of the names to somebody."""
    if not row or row[0] not in names or row[-1] != person:
        return False
    return all([name in links and member in links[name] for name, member in zip(row, row[1:])])


def are_apart(ways):
    """Whether no membership stands twice in the ways, be it in two or in one of them."""
    steps = [step for way in ways for step in zip(way, way[1:])]
    return len(set(steps)) == len(steps)


def are_memberships(pairs, links):
    """Whether the pairs are memberships, in order, none twice."""
    if not all(name in links and member in links[name] for name, member in pairs):
        return False
    return are_rising([(place(name), place(member)) for name, member in pairs])


def links_but(links, pairs):
    """The links without some memberships."""
    gone = {pair: True for pair in pairs}
    return {name: [member for member in links[name] if (name, member) not in gone] for name in links}


class Answer:
    """What is told of a letter and somebody."""


class Way(Answer):
    """A way on which the letter reaches them."""

    def __init__(self, names):
        self.names = list(names)

    def shows(self, book, sender, names, person):
        """Whether it is such a way, be it the told one or another."""
        check_sent(book, sender, names)
        return is_way(self.names, links_toward(book, sender, person), names, person)


class Shut(Answer):
    """Lists that the letter can't get out of, toward somebody who isn't in them."""

    def __init__(self, names):
        self.names = list(names)

    def shows(self, book, sender, names, person):
        """Whether they are such lists, be they the fewest or more."""
        check_sent(book, sender, names)
        links = links_toward(book, sender, person)
        if not all(name in links for name in self.names):
            return False
        if not are_rising([place(name) for name in self.names]):
            return False
        inside = {name: True for name in self.names}
        come = list(names)
        for name in self.names:
            come.extend(links[name])
        return all(name != person and (name in inside or name not in links) for name in come)


class Cut(Answer):
    """Memberships that all ways to them need, and as many ways that share none."""

    def __init__(self, pairs, ways):
        self.pairs = list(pairs)
        self.ways = [list(way) for way in ways]

    def shows(self, book, sender, names, person):
        """Whether they are such memberships and ways."""
        check_sent(book, sender, names)
        if person in names or len(self.pairs) != len(self.ways):
            return False
        links = links_toward(book, sender, person)
        if not all(is_way(way, links, names, person) for way in self.ways):
            return False
        if not are_apart(self.ways) or not are_memberships(self.pairs, all_links(book)):
            return False
        return person not in spread(links_but(links, self.pairs), names)


class Named(Answer):
    """The letter is sent to their own name."""

    def shows(self, book, sender, names, person):
        """Whether it is."""
        check_sent(book, sender, names)
        return person in names
