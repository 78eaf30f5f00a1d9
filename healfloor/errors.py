"""The refusals. Each keeps what it is made of, so that the asker needn't read it out of words."""


class FloorError(ValueError):
    """Any refusal of the program."""


class NoName(FloorError):
    """A name stands where none is known by it."""

    def __init__(self, name):
        self.name = name


class NoText(FloorError):
    """A text is none of the asked form, from this row on."""

    def __init__(self, row):
        self.row = row


class TooMany(FloorError):
    """More cells than so many would be needed."""

    def __init__(self, many):
        self.many = many


class NotPaper(FloorError):
    """A paper is none of the asked sort, or doesn't hold."""


class NoDeed(FloorError):
    """A row told to a desk is no deed of it."""
