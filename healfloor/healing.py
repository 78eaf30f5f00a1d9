"""Healing papers: rows and slopes by which every island is whole again."""

from healfloor.cells import led, sign_of, stretch_of
from healfloor.changes import plain_carried, rows_led
from healfloor.islands import island_carried, island_of, outermost
from healfloor.rows import is_healing
from healfloor.steps import fall_of

HEALS = "heals"
MOST_ROWS = 8


def healing_holds(plain, paper):
    """Whether the paper is a healing paper that holds for the plain rule."""
    if len(paper) != 3 or paper[0] != HEALS:
        return False
    rows = paper[1]
    slopes = paper[2]
    if len(rows) != len(slopes) or not 1 <= len(rows) <= MOST_ROWS:
        return False
    # There is a breaking row: so an empty row has no cell in common with it, and no fall is asked of one.
    if not all([is_healing(plain, row) for row in rows]):
        return False
    return is_nought(slopes) and sum(falls_of(paper)) >= 1


def is_nought(slopes):
    """Whether the slopes add up to (0, 0)."""
    return sum([slope[0] for slope in slopes]) == 0 and sum([slope[1] for slope in slopes]) == 0


def falls_of(paper):
    return [fall_of(row, slope) for row, slope in zip(paper[1], paper[2])]


def sure_beats(paper, island):
    """Behind how many beats the island is whole by the paper."""
    return beats_within(paper, limits_at(paper, island))


def limits_of(paper, island, many):
    """The limits within which all lies that is broken so many beats later; () where nothing is."""
    return limits_behind(paper, limits_at(paper, island), many)


def limits_at(paper, cells):
    """The outermost worths of the cells by the paper's slopes; () of no cells."""
    if len(cells) == 0:
        return ()
    return tuple([outermost(cells, slope) for slope in paper[2]])


def limits_behind(paper, limits, many):
    """What the limits are so many beats later; () where they come to less than nought together."""
    later = tuple([limit - many * fall for limit, fall in zip(limits, falls_of(paper))])
    # The slopes are nought together: so their worths at one cell are, too, and no cell lies within such limits.
    return later if sum(later) >= 0 else ()


def beats_within(paper, limits):
    """Behind how many beats all is whole that lies within the limits."""
    if limits == ():
        return 0
    return sum(limits) // sum(falls_of(paper)) + 1


def healing_carried(paper, by):
    """The paper for the rule carried so."""
    return (HEALS, plain_carried(paper[1], by), paper[2])


def healing_led(paper, table):
    """The paper for the rule led by the table."""
    return (HEALS, rows_led(paper[1], table), tuple([slope_led(slope, table) for slope in paper[2]]))


def slope_led(slope, table):
    """The slope whose worth at each cell, led, is this one's at the cell as many times as the table stretches."""
    sign = sign_of(stretch_of(table))
    return led((sign * table[3], -sign * table[2], -sign * table[1], sign * table[0]), slope)


def healing_often(paper, many):
    """The paper for the rule so many times."""
    return (HEALS, tuple([sums_of(row, many) for row in paper[1]]), paper[2])


def sums_of(row, many):
    """All sums of so many of the row's cells, the same ones, too, rising."""
    sums = island_of(row)
    for step in range(many - 1):
        wider = []
        for cell in row:
            wider.extend(list(island_carried(sums, cell)))
        sums = island_of(wider)
    return sums
