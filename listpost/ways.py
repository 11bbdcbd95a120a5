"""Why a letter reaches somebody or doesn't, and the fewest memberships that all ways to them need."""

from listpost.answers import Cut, Named, Shut, Way, links_but
from listpost.books import all_links, check_sent, links_toward, spread, turned
from listpost.errors import BadName
from listpost.names import check_name, in_order, place


def check_asked(book, sender, names, person):
    """Refuse what is no book, then what is no letter, then who is nobody by the book."""
    check_sent(book, sender, names)
    check_name(person)
    if person in all_links(book):
        raise BadName("the name is a list's, so nobody's")


def steps_toward(links, person):
    """By each name from which links lead to somebody: how many links at least."""
    back = turned(links)
    steps = {person: 0}
    layer = [person]
    while layer:
        farther = []
        for member in layer:
            for name in back.get(member, ()):
                if name not in steps:
                    steps[name] = steps[member] + 1
                    farther.append(name)
        layer = farther
    return steps


def first_way(links, names, person):
    """The first of the shortest ways from the names to somebody; no names at all if there is none."""
    steps = steps_toward(links, person)

    def nearness(name):
        return (steps[name], place(name))

    starts = [name for name in names if name in steps]
    if not starts:
        return []
    way = [min(starts, key=nearness)]
    while way[-1] != person:
        way.append(min([member for member in links[way[-1]] if member in steps], key=nearness))
    return way


def why(book, sender, names, person):
    """The first of the shortest ways of a letter to somebody, or the fewest lists that show that there is none."""
    check_asked(book, sender, names, person)
    links = links_toward(book, sender, person)
    way = first_way(links, names, person)
    if way:
        return Way(way)
    return Shut(in_order([name for name in spread(links, names) if name in links]))


def links_leading_to(links, person):
    """The links, but for those that lead away from somebody for good."""
    leading = spread(turned(links), [person])
    return {name: [member for member in links[name] if member in leading] for name in links}


def turn_round(rest, name, member):
    """Take one link from a name to a member and put one the other way."""
    rest[name][member] -= 1
    if rest[name][member] == 0:
        del rest[name][member]
    back = rest.setdefault(member, {})
    back[name] = back.get(name, 0) + 1


def used_up(links, names, person):
    """The links, counted, with ways to somebody turned round one by one until no way is left.

    A later way may go along a link that an earlier one turned, which undoes this step of the earlier one:
    so that as many ways as can be, that share no link, are turned in the end.
    """
    rest = {name: {member: 1 for member in links[name]} for name in links}
    way = first_way(rest, names, person)
    while way:
        for name, member in zip(way, way[1:]):
            turn_round(rest, name, member)
        way = first_way(rest, names, person)
    return rest


def ways_apart(links, names, person):
    """Ways to somebody, one by one the first of the shortest that are left, until none is."""
    ways = []
    way = first_way(links, names, person)
    while way:
        ways.append(way)
        links = links_but(links, list(zip(way, way[1:])))
        way = first_way(links, names, person)
    return ways


def cut(book, sender, names, person):
    """The fewest memberships that all ways of a letter to somebody need, and as many ways that share none."""
    check_asked(book, sender, names, person)
    if person in names:
        return Named()
    links = links_leading_to(links_toward(book, sender, person), person)
    rest = used_up(links, names, person)
    turned_links = {name: [member for member in links[name] if member not in rest[name]] for name in links}
    near = spread(rest, names)
    # Where the letter still gets ahead, but not across a membership, this one is in use by one of the ways.
    pairs = [(name, member) for name in in_order(links) if name in near
             for member in in_order(turned_links[name]) if member not in near]
    return Cut(pairs, ways_apart(turned_links, names, person))
