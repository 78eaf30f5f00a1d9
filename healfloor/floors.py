"""Floors: cells broken and mended by hand, beats that go by, and deeds taken back."""

from healfloor.beats import beats
from healfloor.islands import together, without


class Floor:
    """A floor with a plain rule, all whole at first."""

    def __init__(self, plain):
        self.plain = plain
        self.island = ()
        self.passed = 0
        # What stood ahead of each deed not taken back yet.
        self.past = []

    def broke(self, cells):
        """Breaks the cells by hand."""
        self.turn_to(together(self.island, cells), self.passed)

    def mend(self, cells):
        """Mends the cells by hand."""
        self.turn_to(without(self.island, cells), self.passed)

    def go(self, many):
        """So many beats go by."""
        self.turn_to(beats(self.plain, self.island, many), self.passed + many)

    def turn_to(self, island, passed):
        self.past.append((self.island, self.passed))
        self.island = island
        self.passed = passed

    def broken(self):
        """The island that is broken."""
        return self.island

    def gone(self):
        """How many beats went by so far."""
        return self.passed

    def back(self):
        """Takes back the last deed, and tells whether there was one."""
        if self.past == []:
            return False
        before = self.past.pop()
        self.island = before[0]
        self.passed = before[1]
        return True
