"""Two books compared, lists drawn in and split off, and answers to a letter's names.

Where two books are compared, each name is one bit, so that all people whom a list reaches are one number.
"""

from listpost.books import all_links, check_book, check_list, copied, departed
from listpost.errors import NoMember, NoOne, NotFresh, NotPlain
from listpost.names import LETTERS, check_letter, check_name, check_names, in_order, place


def names_in(book):
    """All names that stand in a book, be it as lists, members, leavers or gates, as keys."""
    found = {}
    for name, members, left, gate in book:
        standing = [name, *members, *left]
        if gate is not None:
            standing.append(gate)
        found.update({other: True for other in standing})
    return found


def first_strange(taken):
    """The first of all names that isn't taken."""
    names = [""]
    while True:
        names = [name + letter for name in names for letter in LETTERS]
        for name in names:
            if name not in taken:
                return name


def all_bits(names, bits):
    """The bits of the names in one number."""
    mask = 0
    for name in names:
        mask |= bits[name]
    return mask


class Ground:
    """A book, ready to be asked whom all its lists reach, for one sort of sender after another."""

    def __init__(self, book, bits):
        lists = all_links(book)
        self.bits = bits
        self.gates = {name: gate for name, members, left, gate in book if gate is not None}
        self.inner = {name: [member for member in lists[name] if member in lists] for name in lists}
        self.outer = {name: all_bits([member for member in lists[name] if member not in lists], bits)
                      for name in lists}
        self.staying = {name: ~all_bits(left, bits) for name, members, left, gate in book}
        # Members come ahead of the lists that have them, where rings don't forbid it: so few rounds do.
        self.turn = departed(self.inner)
        self.standing = self.masks(())

    def masks(self, shut):
        """By each list: the people whom it reaches if some lists are shut."""
        closed = {name: True for name in shut}
        turn = [name for name in self.turn if name not in closed]
        found = {name: 0 for name in self.turn}
        is_done = False
        while not is_done:
            is_done = True
            for name in turn:
                mask = self.outer[name]
                for member in self.inner[name]:
                    mask |= found[member]
                mask &= self.staying[name]
                if mask != found[name]:
                    found[name] = mask
                    is_done = False
            # People come through a ring against the turn, too: each second round goes the other way.
            turn = turn[::-1]
        return found

    def lets_in(self, gate, sender):
        """Whether lists that have this gate let a sender in."""
        if gate in self.standing:
            return self.standing[gate] & self.bits[sender] != 0
        return gate == sender

    def shut_for(self, sender):
        """The lists that don't let a sender in."""
        return tuple([name for name in self.gates if not self.lets_in(self.gates[name], sender)])


def first_parted(lists, bits, ones, others):
    """The first list that reaches others by the one book than by the other, or None."""
    for name in lists:
        # By a book in which it is no list, it is somebody who gets the letter themself.
        if ones.get(name, bits[name]) != others.get(name, bits[name]):
            return name
    return None


def apart(one, other):
    """The first name, and the first sender to it, that part two books; None if they are alike."""
    check_book(one)
    check_book(other)
    known = names_in(one + other)
    # No gate stands for who is in neither book, so the first such sender does for all of them.
    senders = in_order([*known, first_strange(known)])
    bits = {name: 1 << number for number, name in enumerate(senders)}
    lists = in_order(all_links(one + other))
    ground, other_ground = Ground(one, bits), Ground(other, bits)
    tried = {}
    found = []
    for sender in senders:
        shut, other_shut = ground.shut_for(sender), other_ground.shut_for(sender)
        if (shut, other_shut) not in tried:
            tried[(shut, other_shut)] = True
            name = first_parted(lists, bits, ground.masks(shut), other_ground.masks(other_shut))
            if name is not None:
                found.append((name, sender))
    # Of two senders that part the books at one name, the first one was found first.
    return min(found, key=lambda pair: place(pair[0]), default=None)


def is_plain(book, name):
    """Whether a list can be drawn in: nobody has left it, and no gate is in play."""
    for other, members, left, gate in book:
        if gate == name or (other == name and (left or gate is not None)):
            return False
    return True


def with_drawn_in(members, name, inside):
    """Members, with those of a list that is one of them in its place, but for those that are members already."""
    if name not in members:
        return list(members)
    at = members.index(name)
    fresh = [member for member in inside if member not in members]
    return members[:at] + fresh + members[at + 1:]


def drawn_in(book, name):
    """The book without a list, whose members are where it was."""
    check_book(book)
    lists = all_links(book)
    check_list(lists, name)
    if not is_plain(book, name):
        raise NotPlain("somebody has left the list, or it has a gate, or is one")
    return [(other, with_drawn_in(members, name, lists[name]), list(left), gate)
            for other, members, left, gate in book if other != name]


def split_entry(entry, members, fresh):
    """An entry without some of its members, and behind it that of a new list that has them."""
    name, whole, left, gate = entry
    gone = [member for member in whole if member in members]
    at = whole.index(gone[0])
    rest = whole[:at] + [fresh] + [member for member in whole[at:] if member not in members]
    return [(name, rest, left, gate), (fresh, gone, [], None)]


def split_off(book, name, members, fresh):
    """The book with a new list, which has some members of a list and is a member there in their stead."""
    check_book(book)
    lists = all_links(book)
    check_list(lists, name)
    check_names(members)
    if not all(member in lists[name] for member in members):
        raise NoMember("not all of them are members of the list")
    check_name(fresh)
    if fresh in names_in(book):
        raise NotFresh("the name stands in the book already")
    told = []
    for entry in copied(book):
        told.extend(split_entry(entry, members, fresh) if entry[0] == name else [entry])
    return told


def answer(sender, names, person):
    """The names to which somebody's answer to a letter goes: its sender's and its own, but not theirs."""
    check_letter(sender, names)
    check_name(person)
    told = list({name: True for name in [sender, *names] if name != person})
    if not told:
        raise NoOne("nobody is left to whom the answer could be sent")
    return told
