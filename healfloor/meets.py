"""What the hulls of several rows have in common."""

from healfloor.cells import lookup_of, point_of, worth_at
from healfloor.fractions import added, is_less, less, over, times
from healfloor.hulls import hull_of, sides_of


def meet_of(rows):
    """The corners of what lies in the hulls of all rows, counterclockwise from the one of least x, then y, on."""
    ring = ring_of(rows[0])
    for row in rows[1:]:
        for slope, number in sides_of(row):
            ring = held(ring, slope, number)
    return tuple(from_least(ring))


def ring_of(row):
    """The corners of the row's hull as points, counterclockwise."""
    return [point_of(corner) for corner in hull_of(row)]


def held(ring, slope, number):
    """The corners of that part of a convex ring at which the slope's worth is at least so much."""
    rests = [less(worth_at(slope, point), (number, 1)) for point in ring]
    told = []
    # From the last corner to the first one, too: at -1 a list has its last one.
    for at in range(len(ring)):
        if rests[at - 1][0] * rests[at][0] < 0:
            told.append(crossing(ring[at - 1], ring[at], rests[at - 1], rests[at]))
        if rests[at][0] >= 0:
            told.append(ring[at])
    # The way along a stretch and the way back cross at the same point.
    return list(lookup_of(told))


def crossing(one, other, one_rest, other_rest):
    """The point of the way from one to the other at which what is left over, of unlike signs at both, is nought."""
    share = over(one_rest, less(one_rest, other_rest))
    return (between(one[0], other[0], share), between(one[1], other[1], share))


def between(one, other, share):
    return added(one, times(share, less(other, one)))


def from_least(ring):
    """The ring begun with its point of least x, of these of least y."""
    least = 0
    for at in range(len(ring)):
        if is_ahead(ring[at], ring[least]):
            least = at
    return ring[least:] + ring[:least]


def is_ahead(one, other):
    if one[0] == other[0]:
        return is_less(one[1], other[1])
    return is_less(one[0], other[0])
