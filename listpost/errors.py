"""The refusals of the program, one class for each kind."""


class PostError(ValueError):
    """Something handed in is refused."""


class BadBook(PostError):
    """A book is none: row is the number of its first wrong entry."""

    def __init__(self, row):
        super().__init__(f"no book: entry {row} is wrong")
        self.row = row


class BadRow(PostError):
    """A text is no book's: row is the number of its first wrong row."""

    def __init__(self, row):
        super().__init__(f"no book's text: row {row} is wrong")
        self.row = row


class BadText(PostError):
    """Something is no text."""


class BadName(PostError):
    """Something is no name that may stand here."""


class BadNames(PostError):
    """Something is no list of one name or more, none twice."""


class NoList(PostError):
    """A name is no list's."""


class NoMember(PostError):
    """A name isn't among those of a list."""


class NotFresh(PostError):
    """A name stands in the book already."""


class NotPlain(PostError):
    """A list can't be drawn in."""


class Twice(PostError):
    """Something would be there twice."""


class NoOne(PostError):
    """Nobody is left to whom a letter could be sent."""


class NoLetter(PostError):
    """Something is no number of a letter."""


class NotHeld(PostError):
    """A list doesn't hold a letter."""
