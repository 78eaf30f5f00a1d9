"""Rows and slopes by which no point lies in the hulls of all rows."""

from healfloor.cells import worth_at
from healfloor.fractions import common_divisor, is_less
from healfloor.hulls import sides_of
from healfloor.meets import held, ring_of


def parting_of(rows):
    """Some of the rows, at most three, and slopes that together are nought, with falls of 1 or more together; or None.

    Sides are taken one by one, as long as some point is left. Where a side leaves none, the sides that touch the
    last of the points ahead of it keep all points off it.
    """
    ring = ring_of(rows[0])
    sides = []
    for row in rows:
        for slope, number in sides_of(row):
            left = held(ring, slope, number)
            if left == []:
                last = last_of(ring, slope)
                touching = [side[:2] for side in sides if worth_at(side[1], last) == (side[2], 1)]
                return paired(balanced(touching, (row, slope)))
            ring = left
            sides.append((row, slope, number))
    return None


def last_of(ring, slope):
    """A point of the ring at which the slope's worth is greatest."""
    last = ring[0]
    for point in ring:
        if is_less(worth_at(slope, last), worth_at(slope, point)):
            last = point
    return last


def balanced(sides, third):
    """Rows with slopes that are nought together: those of two of the sides and of the third one, each so many times.

    There are two such sides: at their common point the third slope is greatest of all that they hold.
    """
    for one in sides:
        for other in sides:
            shares = (turn(other[1], third[1]), turn(third[1], one[1]), turn(one[1], other[1]))
            if min(shares) >= 0 and shares[2] > 0:
                return [many_times(side, share) for side, share in zip((one, other, third), shares) if share > 0]


def many_times(side, many):
    return (side[0], (many * side[1][0], many * side[1][1]))


def turn(one, other):
    """Above nought where the other slope lies to the left of the one, nought where both are of one line."""
    return one[0] * other[1] - one[1] * other[0]


def paired(parts):
    """The rows, each once, and the slopes, those of one row added up, as small as whole numbers go."""
    sums = {}
    for row, slope in parts:
        ahead = sums.get(row, (0, 0))
        sums[row] = (ahead[0] + slope[0], ahead[1] + slope[1])
    divisor = 0
    for slope in sums.values():
        divisor = common_divisor(divisor, common_divisor(slope[0], slope[1]))
    return (tuple(sums), tuple([(slope[0] // divisor, slope[1] // divisor) for slope in sums.values()]))
