"""Lands: what lies to the left of all sides of a ring."""

from healfloor.cells import carried, point_of, side_at, worth
from healfloor.hulls import inward, neighbours

SQUARE = ((0, 0), (1, 0), (0, 1), (1, 1))


def in_land(ring, point):
    """Whether the point lies left of each side of the ring, or on its line."""
    return all([side_at(one, other, point) >= 0 for one, other in neighbours(ring)])


def land_cells(ring):
    """All cells of the ring's land, where this is the hull of the ring's cells."""
    heights = [cell[1] for cell in ring]
    told = []
    for x in range(min(ring)[0], max(ring)[0] + 1):
        column = [(x, y) for y in range(min(heights), max(heights) + 1)]
        told.extend([cell for cell in column if in_land(ring, point_of(cell))])
    return tuple(told)


def land_sides(ring):
    """The sides (slope, number) of the land: a point is in it where for each side its worth is at least the number."""
    return [(slope, worth(slope, cell)) for slope, cell in zip(inward(ring), ring)]


def pieces_of(ring, middle):
    """The pieces into which the land is cut from its middle, one for each side."""
    return [(middle, one, other) for one, other in neighbours(ring)]


def square_at(cell):
    """The corners of the square of which the cell is the least one."""
    return tuple([carried(corner, cell) for corner in SQUARE])


def greater(cell, many):
    return (many * cell[0], many * cell[1])


def ring_greater(ring, many):
    return tuple([greater(cell, many) for cell in ring])
