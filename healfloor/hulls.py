"""Hulls of cells: their corners, their sides, the points in them."""

from healfloor.cells import side_of, worth, worth_at
from healfloor.fractions import is_less

ALL_WAYS = ((1, 0), (0, 1), (-1, 0), (0, -1))


def hull_of(cells):
    """The corners of the hull, counterclockwise from the least one on."""
    rising = sorted(set(cells))
    there = left_turns(rising)
    back = left_turns(list(reversed(rising)))
    # The last one of each way is the first one of the other; a single cell is all of both.
    return tuple(there[:-1] + back[:-1] or rising)


def left_turns(cells):
    """Those of the cells, in order, at which the way from the first one to the last one turns, always to the left."""
    corners = []
    for cell in cells:
        while len(corners) > 1 and side_of(corners[-2], corners[-1], cell) <= 0:
            corners.pop()
        corners.append(cell)
    return corners


def sides_of(cells):
    """Sides (slope, number) that hold the cells: a point is in the hull where for each its worth is at least that."""
    corners = hull_of(cells)
    return tuple([(slope, min([worth(slope, corner) for corner in corners])) for slope in inward(corners)])


def inward(corners):
    """The slopes that rise from a hull's sides to its inside."""
    if len(corners) == 1:
        return list(ALL_WAYS)
    ways = [(other[0] - one[0], other[1] - one[1]) for one, other in neighbours(corners)]
    slopes = [(-way[1], way[0]) for way in ways]
    # A stretch's two ways there and back hold its line; its own directions hold its ends.
    return slopes + ways if len(corners) == 2 else slopes


def neighbours(ring):
    """Each cell of a ring with the next one, the last with the first, too."""
    return list(zip(ring, ring[1:] + ring[:1]))


def in_hull(cells, point):
    """Whether the point lies in the hull of the cells, its border too."""
    return all([not is_less(worth_at(slope, point), (number, 1)) for slope, number in sides_of(cells)])
