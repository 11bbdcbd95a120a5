"""Names and their order, and what is refused as names."""

from listpost.errors import BadName, BadNames

LETTERS = "abcdefghijklmnopqrstuvwxyz"
MOST_LETTERS = 20


def is_name(thing):
    """Whether a thing of any kind is a name."""
    if not isinstance(thing, str) or not 1 <= len(thing) <= MOST_LETTERS:
        return False
    return all(letter in LETTERS for letter in thing)


def are_names(thing):
    """Whether a thing of any kind is a list of names, none twice."""
    if not isinstance(thing, list) or not all(is_name(name) for name in thing):
        return False
    return len(set(thing)) == len(thing)


def check_name(thing):
    """Refuse what is no name."""
    if not is_name(thing):
        raise BadName("a name is a text of 1 to 20 letters from a to z")


def check_names(thing):
    """Refuse what is no list of one name or more, none twice."""
    if not are_names(thing) or not thing:
        raise BadNames("names are a list of one name or more, none twice")


def check_letter(sender, names):
    """Refuse what is no letter, its sender first."""
    check_name(sender)
    check_names(names)


def place(name):
    """By what names are in order: shorter ones come first, whatever their letters."""
    return (len(name), name)


def in_order(names):
    """A new list of the names, in order."""
    return sorted(names, key=place)


def are_rising(places):
    """Whether each place is ahead of the next one, so that none is there twice."""
    return all([one < other for one, other in zip(places, places[1:])])
