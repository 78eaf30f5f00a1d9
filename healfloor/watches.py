"""Watches: by when all is whole, told by limits alone, wherever cells break later."""

from healfloor.errors import NotPaper
from healfloor.healing import beats_within, healing_holds, limits_at, limits_behind


class Watch:
    """The limits within which all lies that is broken. It sees no floor."""

    def __init__(self, plain, paper):
        if not healing_holds(plain, paper):
            raise NotPaper()
        self.paper = paper
        self.kept = ()

    def broke(self, cells):
        """Is told that these cells break now."""
        fresh = limits_at(self.paper, cells)
        if self.kept == ():
            self.kept = fresh
        elif fresh != ():
            self.kept = tuple([max(one, other) for one, other in zip(self.kept, fresh)])

    def go(self, many):
        """Is told that so many beats go by."""
        self.kept = limits_behind(self.paper, self.kept, many)

    def limits(self):
        return self.kept

    def by(self):
        """Behind how many beats from now all is whole."""
        return beats_within(self.paper, self.kept)
