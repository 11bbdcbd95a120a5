"""A post: a book that is changed, and letters that are held at lists, let on there, or dropped."""

from listpost.books import all_links, carried, check_book, check_list, copied, open_links, stood_for
from listpost.errors import NoLetter, NoMember, NotHeld, Twice
from listpost.names import check_letter, check_name, in_order, is_name

# Where a list's entry has its members, and those who have left it.
MEMBERS = 1
LEFT = 2

HOLDS = "holds"
LETS = "lets"
DROPPED = "dropped"


def put(names, name):
    """Let a name come last, unless it is there."""
    if name in names:
        raise Twice("the name is there already")
    names.append(name)


def take(names, name):
    """Let a name go, if it is there."""
    if name not in names:
        raise NoMember("the name isn't there")
    names.remove(name)


class Letter:
    """A letter, the people who got it, and what became of it at each list that ever held it."""

    def __init__(self, sender, names):
        self.sender = sender
        self.names = list(names)
        self.readers = {}
        self.marks = {}

    def at(self, mark):
        """The lists that have a mark, in order."""
        return in_order([name for name in self.marks if self.marks[name] == mark])

    def go(self, book):
        """Go from its names by the book, through the lists at which it was let as well."""
        links = open_links(book, self.sender)
        lists = all_links(book)
        for name in self.at(LETS):
            links[name] = lists[name]
        readers, holders = carried(book, links, self.names)
        self.readers.update({person: True for person in readers})
        for name in holders:
            # A list that has dropped it keeps its mark, and so doesn't hold it again.
            self.marks.setdefault(name, HOLDS)

    def twin(self):
        """A letter of its own that stands as this one."""
        other = Letter(self.sender, self.names)
        other.readers = dict(self.readers)
        other.marks = dict(self.marks)
        return other


class Post:
    """A book that is changed, and the letters that were sent by it."""

    def __init__(self, book):
        check_book(book)
        self.rows = {entry[0]: entry for entry in copied(book)}
        self.sent = []

    def entries(self):
        """The book as it stands, with the post's own lists in it."""
        return list(self.rows.values())

    def book(self):
        """The book as it stands."""
        return copied(self.entries())

    def people(self, name):
        """All people for whom a name stands, in order."""
        return stood_for(self.entries(), name)

    def names_at(self, name, part, other):
        """The members of a list, or those who have left it, once it is sure that both names are names."""
        check_list(self.rows, name)
        check_name(other)
        return self.rows[name][part]

    def found(self, name):
        """A new list without members comes last."""
        check_name(name)
        if name in self.rows:
            raise Twice("the name is a list's already")
        self.rows[name] = (name, [], [], None)

    def enter(self, name, member):
        """A member comes last."""
        put(self.names_at(name, MEMBERS, member), member)

    def strike(self, name, member):
        """A member goes."""
        take(self.names_at(name, MEMBERS, member), member)

    def leave(self, name, person):
        """A name comes last to those who have left the list."""
        put(self.names_at(name, LEFT, person), person)

    def come_back(self, name, person):
        """A name goes from those who have left the list."""
        take(self.names_at(name, LEFT, person), person)

    def bar(self, name, gate=None):
        """The list has this gate from now on, or none."""
        check_list(self.rows, name)
        if gate is not None:
            check_name(gate)
        self.rows[name] = (name, self.rows[name][MEMBERS], self.rows[name][LEFT], gate)

    def send(self, sender, names):
        """A letter goes to people and to lists that hold it; told is its number."""
        check_letter(sender, names)
        letter = Letter(sender, names)
        letter.go(self.entries())
        self.sent.append(letter)
        return len(self.sent) - 1

    def numbered(self, number):
        """The letter that has a number."""
        is_number = isinstance(number, int) and not isinstance(number, bool)
        if not is_number or not 0 <= number < len(self.sent):
            raise NoLetter("this is no number of a letter")
        return self.sent[number]

    def held_by(self, number, name):
        """The letter that has a number and that a list holds."""
        letter = self.numbered(number)
        if not is_name(name) or letter.marks.get(name) != HOLDS:
            raise NotHeld("the list doesn't hold the letter")
        return letter

    def held(self):
        """Pairs of a letter's number and a list that holds it, in order."""
        return [(number, name) for number, letter in enumerate(self.sent) for name in letter.at(HOLDS)]

    def let(self, number, name):
        """A list holds a letter no more, and the letter goes once more, through this list, too."""
        letter = self.held_by(number, name)
        letter.marks[name] = LETS
        letter.go(self.entries())

    def drop(self, number, name):
        """A list holds a letter no more, and never will again."""
        letter = self.held_by(number, name)
        letter.marks[name] = DROPPED

    def got(self, person):
        """The numbers of all letters that somebody got, rising."""
        check_name(person)
        return [number for number, letter in enumerate(self.sent) if person in letter.readers]

    def letter(self, number):
        """The sender of a letter, and the names to which it was sent."""
        letter = self.numbered(number)
        return (letter.sender, list(letter.names))

    def twin(self):
        """A post of its own that stands as this one."""
        other = Post(self.entries())
        other.sent = [letter.twin() for letter in self.sent]
        return other
