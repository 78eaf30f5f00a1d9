"""Cells, points, slopes and tables."""

from healfloor.fractions import added, times


def point_of(cell):
    """The cell as a point."""
    return ((cell[0], 1), (cell[1], 1))


def worth(slope, cell):
    """The slope's worth at a cell, a whole number."""
    return slope[0] * cell[0] + slope[1] * cell[1]


def worth_at(slope, point):
    """The slope's worth at a point, a fraction."""
    along = times((slope[0], 1), point[0])
    up = times((slope[1], 1), point[1])
    return added(along, up)


def sign_of(number):
    if number > 0:
        return 1
    if number < 0:
        return -1
    return 0


def side_of(one, other, third):
    """On which side of the way from one cell to the other the third cell lies: 1 left, 0 on the line, -1 right."""
    return side_at(one, other, point_of(third))


def side_at(one, other, point):
    """As side_of, of a point."""
    # Lower numbers are above nought: multiplied by both the sign stays, and all is whole numbers.
    along = (point[0][0] - one[0] * point[0][1]) * point[1][1]
    up = (point[1][0] - one[1] * point[1][1]) * point[0][1]
    return sign_of((other[0] - one[0]) * up - (other[1] - one[1]) * along)


def led(table, cell):
    """The cell to which the table leads this one."""
    return (worth(table[:2], cell), worth(table[2:], cell))


def each_led(table, cells):
    """The cells to which the table leads these, each in its place."""
    return tuple([led(table, cell) for cell in cells])


def stretch_of(table):
    """How many times as great the table makes what it leads; below nought where it turns about, too."""
    return table[0] * table[3] - table[1] * table[2]


def carried(cell, by):
    return (cell[0] + by[0], cell[1] + by[1])


def lookup_of(things):
    """The things as keys of a dict, so that to ask whether one is among them costs one step."""
    return dict([(thing, True) for thing in things])
