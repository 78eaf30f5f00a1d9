"""What rules break, and whether the names of a book are those of pairs ahead."""

from healfloor.cells import carried, led, lookup_of
from healfloor.errors import NoName

AS_IT_IS = (1, 0, 0, 1)


class IslandFloor:
    """The floor on which just the cells of an island are broken."""

    def __init__(self, island):
        self.places = lookup_of(island)

    def is_broken(self, cell):
        return cell in self.places


class LaterFloor:
    """The floor a beat later than another one. It is asked cell by cell, and reckons each cell once."""

    def __init__(self, rule, table, floor):
        self.rule = rule
        self.table = table
        self.floor = floor
        self.known = {}

    def is_broken(self, cell):
        if cell not in self.known:
            self.known[cell] = breaks_on(self.rule, self.table, self.floor, cell)
        return self.known[cell]


def breaks(rule, island, cell):
    """Whether the rule, one without names, breaks the cell where just the island is broken."""
    return breaks_on(rule, AS_IT_IS, IslandFloor(island), cell)


def breaks_on(rule, table, floor, cell):
    """Whether the rule, all its carryings led by the table, breaks the cell of the floor."""
    form = rule[0]
    if form == "cell":
        return floor.is_broken(carried(cell, led(table, rule[1:])))
    if form == "at":
        return breaks_on(rule[3], table, floor, carried(cell, led(table, rule[1:3])))
    if form == "by":
        return breaks_on(rule[2], within(table, rule[1]), floor, cell)
    if form == "then":
        return breaks_on(rule[2], table, LaterFloor(rule[1], table, floor), cell)
    return parts_break(least_of(rule), parts_of(rule), table, floor, cell)


def parts_break(least, parts, table, floor, cell):
    """Whether at least so many of the parts break the cell."""
    lacking = least
    spare = len(parts) - least
    for part in parts:
        if breaks_on(part, table, floor, cell):
            lacking = lacking - 1
        else:
            spare = spare - 1
        if lacking == 0 or spare < 0:
            break
    return lacking == 0


def least_of(rule):
    """How many parts of a rule all, any or least must break a cell at the least."""
    if rule[0] == "least":
        return rule[1]
    return 1 if rule[0] == "any" else len(rule[1])


def within(outer, inner):
    """The one table that leads by the inner one and then by the outer one."""
    first = led(outer, (inner[0], inner[2]))
    second = led(outer, (inner[1], inner[3]))
    return (first[0], second[0], first[1], second[1])


def parts_of(rule):
    """The rules that stand right within a rule, from left to right, as a tuple."""
    form = rule[0]
    if form in ("cell", "name"):
        return ()
    if form in ("all", "any", "least"):
        return rule[-1]
    return rule[1:] if form == "then" else rule[-1:]


def names_in(rule):
    """The names in a rule, from left to right. Rules may be deeper than calls can go: what is still to do is a list."""
    names = []
    waiting = [rule]
    while waiting:
        here = waiting.pop()
        if here[0] == "name":
            names.append(here[1])
        waiting.extend(list(reversed(parts_of(here))))
    return names


def look_book(book):
    """Lets the book by, or refuses it with the first name that is of no pair ahead."""
    ahead = {}
    for pair in book:
        for name in names_in(pair[1]):
            if name not in ahead:
                raise NoName(name)
        ahead[pair[0]] = True
