"""Living papers: lands that are never whole again."""

from healfloor.cells import worth, worth_at
from healfloor.fractions import ceiling_of, common_divisor, is_less, less, over, times
from healfloor.hulls import hull_of, neighbours
from healfloor.islands import island_carried
from healfloor.lands import land_sides, pieces_of, ring_greater, square_at
from healfloor.rows import bits_of, breaks_by
from healfloor.steps import fall_of

LIVES = "lives"
LEAST_RING = 3
MIDDLE = (0, 0)


def living_holds(plain, paper):
    """Whether the paper is a living paper that holds for the plain rule."""
    if len(paper) != 6 or paper[0] != LIVES:
        return False
    ring = paper[2]
    rows = paper[5]
    if len(ring) < LEAST_RING or len(rows) != len(ring) or any([one == other for one, other in neighbours(ring)]):
        return False
    if not all([breaks_by(plain, row) for row in rows]):
        return False
    return all([side_holds(paper, slope, number) for slope, number in land_sides(ring)])


def side_holds(paper, slope, number):
    """Whether all that must be in the land, carried pieces too, lies on the inner side of this side of it."""
    ring = paper[2]
    if fall_of(ring + (paper[3],) + square_at(paper[4]), slope) < number:
        return False
    due = worth_at(slope, paper[1])
    # Of all cells of a row carried onto all of a piece, the least worth is both least ones together.
    least = [fall_of(piece, slope) + fall_of(row, slope) for piece, row in zip(pieces_of(ring, paper[3]), paper[5])]
    return not is_less((min(least) - number, 1), due)


def cell_at(paper, many):
    """A cell that is broken so many beats later."""
    return (least_behind(paper[4][0], paper[1][0], many), least_behind(paper[4][1], paper[1][1], many))


def least_behind(number, step, many):
    """The least whole number that is at least the number less so many steps."""
    return ceiling_of(less((number, 1), times((many, 1), step)))


def land_of(plain, v):
    """A living paper with this v that holds for the plain rule; v lies in the hull of each healing row.

    The sides run along all ways from v to cells of the rule: so each such way that leads inward at one point near
    a corner leads nowhere outward there. Each corner has a breaking row of which all ways lead inward; each side is
    halved, one half to the row of either corner.
    """
    corners = corners_of(ways_from(plain, v))
    ring = halved(corners)
    rows = rows_inward(plain, corners)
    size = size_for(v, corners, ring, rows)
    return (LIVES, v, ring_greater(ring, size), MIDDLE, MIDDLE, rows)


def ways_from(plain, v):
    """The ways from v to the rule's cells and along both axes, each direction once, as small as whole numbers go."""
    ways = {(1, 0): True, (0, 1): True}
    for cell in bits_of(plain):
        along = (cell[0] * v[0][1] - v[0][0]) * v[1][1]
        up = (cell[1] * v[1][1] - v[1][0]) * v[0][1]
        if (along, up) != (0, 0):
            divisor = common_divisor(along, up)
            way = (along // divisor, up // divisor)
            # There and back are one direction: sides run both ways.
            ways[max(way, (-way[0], -way[1]))] = True
    return list(ways)


def corners_of(ways):
    """The corners of the land around (0, 0) whose sides are twice each way, there and back."""
    sums = [MIDDLE]
    for way in ways:
        sums = list(island_carried(sums, way)) + list(island_carried(sums, (-way[0], -way[1])))
    return hull_of(sums)


def halved(corners):
    """The corners, and behind each the middle of the way to the next one."""
    ring = []
    for one, other in neighbours(corners):
        ring.extend([one, ((one[0] + other[0]) // 2, (one[1] + other[1]) // 2)])
    return tuple(ring)


def rows_inward(plain, corners):
    """For each half of a side the breaking row whose ways lead inward at its corner."""
    sides = [side[0] for side in land_sides(corners)]
    rows = []
    # At -1 a list has its last one: the side that leads to the first corner.
    for at in range(len(sides)):
        slope = (sides[at - 1][0] + sides[at][0], sides[at - 1][1] + sides[at][1])
        row = max(plain, key=lambda breaking: fall_of(breaking, slope))
        rows.extend([row, row])
    # The half ahead of the first corner is the last one.
    return tuple(rows[1:] + rows[:1])


def size_for(v, corners, ring, rows):
    """How many times as great the land must be so that the rows carry its pieces into it."""
    sizes = [1]
    for slope, number in land_sides(corners):
        due = worth_at(slope, v)
        for piece, row in zip(pieces_of(ring, MIDDLE), rows):
            # Where there is no room, the row leads inward.
            room = min([worth(slope, cell) - number for cell in piece if worth(slope, cell) > number])
            sizes.append(ceiling_of(over(less(due, (fall_of(row, slope), 1)), (room, 1))))
    return max(sizes)
