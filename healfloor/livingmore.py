"""Living papers carried along with their rules, and made greater."""

from healfloor.cells import each_led, led, point_of, stretch_of, worth_at
from healfloor.changes import plain_carried, rows_led
from healfloor.fractions import added
from healfloor.lands import greater, in_land, ring_greater, square_at


def living_carried(paper, by):
    """The paper for the rule carried so."""
    v = paper[1]
    onward = (added(v[0], (by[0], 1)), added(v[1], (by[1], 1)))
    return (paper[0], onward) + paper[2:5] + (plain_carried(paper[5], by),)


def living_led(paper, table):
    """The paper for the rule led by the table, as great as it must be for a square."""
    v = (worth_at(table[:2], paper[1]), worth_at(table[2:], paper[1]))
    ring = each_led(table, paper[2])
    rows = rows_led(paper[5], table)
    if stretch_of(table) < 0:
        ring = tuple(reversed(ring))
        # The way from the last cell to the first one stays the last, all others are met from behind.
        rows = tuple(reversed(rows[:-1])) + rows[-1:]
    middle = led(table, paper[3])
    # Twice the middle of the square, so that it is of whole numbers.
    twice = led(table, (2 * paper[4][0] + 1, 2 * paper[4][1] + 1))
    many = 1
    # What the old square became grows, too, and in the end has a whole square around its middle.
    while not has_square(ring_greater(ring, many), least_around(twice, many)):
        many = many + 1
    return (paper[0], v, ring_greater(ring, many), greater(middle, many), least_around(twice, many), rows)


def least_around(twice, many):
    """The least cell of a square that has the point so many times half of this one."""
    return (many * twice[0] // 2, many * twice[1] // 2)


def has_square(ring, cell):
    """Whether the square that begins with the cell is in the ring's land."""
    return all([in_land(ring, point_of(corner)) for corner in square_at(cell)])


def living_greater(paper, many):
    """The paper with a land so many times as great."""
    return paper[:2] + (ring_greater(paper[2], many), greater(paper[3], many), greater(paper[4], many)) + paper[5:]
