"""Books: whom a name stands for, which lists are in rings, whom a letter reaches.

Links are a dict from the names of lists to the names of their members. Lists that
a way may not go through are left out of it, so that one search serves all questions.
"""

from listpost.errors import BadBook, NoList
from listpost.names import are_names, check_letter, check_name, in_order, is_name, place


def is_entry(thing):
    """Whether a thing of any kind is an entry, looked at by itself."""
    if not isinstance(thing, tuple) or len(thing) != 4:
        return False
    name, members, left, gate = thing
    return is_name(name) and are_names(members) and are_names(left) and (gate is None or is_name(gate))


def check_book(book):
    """Refuse what is no book, with the number of its first wrong entry."""
    if not isinstance(book, list):
        raise BadBook(0)
    taken = {}
    for row, entry in enumerate(book):
        if not is_entry(entry) or entry[0] in taken:
            raise BadBook(row)
        taken[entry[0]] = True


def check_sent(book, sender, names):
    """Refuse what is no book, then what is no letter."""
    check_book(book)
    check_letter(sender, names)


def check_list(lists, name):
    """Refuse what is no name, then what isn't among the names of the lists."""
    check_name(name)
    if name not in lists:
        raise NoList("the name is no list's")


def copied(book):
    """The book once more, with lists of its own."""
    return [(name, list(members), list(left), gate) for name, members, left, gate in book]


def all_links(book):
    """The links of all lists of the book."""
    return {name: members for name, members, left, gate in book}


def lists_left(book):
    """By each name that has left a list: the lists that it has left."""
    away = {}
    for name, members, left, gate in book:
        for person in left:
            away.setdefault(person, []).append(name)
    return away


def links_without(links, lists):
    """The links, but for those of some lists."""
    kept = dict(links)
    for name in lists:
        kept.pop(name, None)
    return kept


def turned(links):
    """By each member: the lists that have it."""
    back = {}
    for name in links:
        for member in links[name]:
            back.setdefault(member, []).append(name)
    return back


def spread(links, names):
    """The names, and all names to which links lead from them, as keys."""
    come = {name: True for name in names}
    waiting = list(names)
    while waiting:
        name = waiting.pop()
        for member in links.get(name, ()):
            if member not in come:
                come[member] = True
                waiting.append(member)
    return come


def names_for(book, person):
    """All names that stand for somebody, their own too; none for a list, which is nobody."""
    links = all_links(book)
    if person in links:
        return {}
    away = lists_left(book).get(person, ())
    return spread(turned(links_without(links, away)), [person])


def open_links(book, sender):
    """The links of the lists that let the sender in."""
    passes = names_for(book, sender)
    return {name: members for name, members, left, gate in book if gate is None or gate in passes}


def links_toward(book, sender, person):
    """The links of the lists that let the sender in and that somebody hasn't left."""
    return links_without(open_links(book, sender), lists_left(book).get(person, ()))


def grouped(book, come):
    """The people among the names come to, by the lists come to that they have left."""
    lists = all_links(book)
    away = lists_left(book)
    groups = {}
    for person in come:
        if person not in lists:
            left = tuple([name for name in away.get(person, ()) if name in come])
            groups.setdefault(left, []).append(person)
    return groups


def arrived(book, links, names):
    """The people to whom a way leads from the names by the links, in order."""
    groups = grouped(book, spread(links, names))
    found = []
    # Those who have left the same lists have the same ways open: one search does for all of them.
    for left in groups:
        come = spread(links_without(links, left), names)
        found.extend([person for person in groups[left] if person in come])
    return in_order(found)


def carried(book, links, names):
    """The people to whom a letter comes by the links, and the lists at which it comes to an end, each in order."""
    lists = all_links(book)
    held = [name for name in spread(links, names) if name in lists and name not in links]
    return (arrived(book, links, names), in_order(held))


def stood_for(book, name):
    """All people for whom a name stands, in order, by what is known to be a book."""
    check_name(name)
    return arrived(book, all_links(book), [name])


def people(book, name):
    """All people for whom a name stands, in order."""
    check_book(book)
    return stood_for(book, name)


def reached(book, sender, names):
    """The people whom a letter reaches, and the lists that hold it, each in order."""
    check_sent(book, sender, names)
    return carried(book, open_links(book, sender), names)


def departed(links):
    """The lists, in the turn in which a walk that goes deeper first is done with them."""
    seen = {}
    done = []
    for start in links:
        waiting = [(start, False)]
        while waiting:
            name, is_done = waiting.pop()
            if is_done:
                done.append(name)
            elif name not in seen:
                seen[name] = True
                waiting.append((name, True))
                waiting.extend([(member, False) for member in links[name] if member not in seen])
    return done


def knots(links):
    """The lists, each once, together with all that it leads to and that lead to it."""
    back = turned(links)
    taken = {}
    found = []
    # A list that is done last leads to all that lead to it and aren't taken yet.
    for name in reversed(departed(links)):
        if name not in taken:
            knot = [other for other in spread(back, [name]) if other not in taken]
            for other in knot:
                taken[other] = True
                # Without its links no later search goes through it again.
                back.pop(other, None)
            found.append(knot)
    return found


def rings(book):
    """All rings, each in order, in order by their first names."""
    check_book(book)
    lists = all_links(book)
    links = {name: [member for member in lists[name] if member in lists] for name in lists}
    found = [in_order(knot) for knot in knots(links) if len(knot) > 1 or knot[0] in links[knot[0]]]
    return sorted(found, key=lambda ring: place(ring[0]))
