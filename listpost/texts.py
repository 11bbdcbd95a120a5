"""Books as texts: an entry is a row, such as `club: ann, board; left bob; by board`."""

from listpost.books import check_book, is_entry
from listpost.errors import BadRow, BadText

LEFT = "left "
BY = "by "


def written_entry(name, members, left, gate):
    """An entry's row, without the line feed behind it."""
    row = f"{name}:"
    if members:
        row += " " + ", ".join(members)
    if left:
        row += "; " + LEFT + ", ".join(left)
    if gate is not None:
        row += "; " + BY + gate
    return row


def written(book):
    """A book as a text."""
    check_book(book)
    return "".join([written_entry(name, members, left, gate) + "\n" for name, members, left, gate in book])


def parted(text):
    """What stands between the commas, without blanks around it."""
    return [part.strip(" ") for part in text.split(",")]


def read_row(row):
    """What a row tells in an entry's places, be it right or not; None if not even the places are there."""
    head, *parts = [part.strip(" ") for part in row.split(";")]
    name, colon, inside = head.partition(":")
    members = parted(inside) if inside else []
    left = []
    gate = None
    if parts and parts[0].startswith(LEFT):
        left = parted(parts.pop(0).removeprefix(LEFT))
    if parts and parts[0].startswith(BY):
        gate = parts.pop(0).removeprefix(BY).strip(" ")
    if not colon or parts:
        return None
    return (name.strip(" "), members, left, gate)


def is_passed_over(row):
    """Whether a row is no entry's and no wrong one."""
    told = row.lstrip(" ")
    return told == "" or told.startswith("#")


def read(text):
    """The book that a text tells."""
    if not isinstance(text, str):
        raise BadText("a book is read from a text")
    book = []
    taken = {}
    for number, row in enumerate(text.split("\n")):
        if not is_passed_over(row):
            entry = read_row(row)
            if not is_entry(entry) or entry[0] in taken:
                raise BadRow(number)
            taken[entry[0]] = True
            book.append(entry)
    return book
