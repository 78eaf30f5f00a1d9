"""Plain rules changed: carried, led by a table, put behind one another."""

from healfloor.cells import each_led
from healfloor.islands import island_carried, island_led
from healfloor.rows import bits_of, has_within, masks_of, rows_that_break, shared_bits


def plain_carried(plain, by):
    # Carried alike, rows keep their order, as their cells do.
    return tuple([island_carried(row, by) for row in plain])


def plain_led(plain, table):
    return tuple(sorted([island_led(row, table) for row in plain]))


def rows_led(rows, table):
    """Each cell of each row led, in its place: what is told so needn't be rising."""
    return tuple([each_led(table, row) for row in rows])


def behind(one, other):
    """The plain rule whose beat is a beat by the one and then a beat by the other, or TooMany."""
    places = bits_of(other)
    ends = masks_of(other, places)
    bits = shared_bits([plain_carried(one, place) for place in places])
    pairs = [(places[place], masks_of(plain_carried(one, place), bits)) for place in places]
    return rows_that_break(bits, lambda mask: has_within(seen_between(mask, pairs), ends))


def seen_between(mask, pairs):
    """The mask of those places that are broken between both beats, where those of this mask are at first.

    The pairs have for each place its bit, and the masks that break it.
    """
    return sum([bit for bit, masks in pairs if has_within(mask, masks)])


def so_often(plain, many):
    """The plain rule whose beat is so many beats, or TooMany as soon as there are too many cells."""
    told = plain
    for step in range(many - 1):
        told = behind(told, plain)
    return told
