"""Islands: rising tuples of unlike cells, also the empty one."""

from healfloor.cells import carried, each_led, worth


def island_of(cells):
    """The island of any list or tuple of cells, also doubled ones."""
    return tuple(sorted(set(cells)))


def together(one, other):
    """The cells that are in one island or in the other."""
    return tuple(sorted(set(one) | set(other)))


def both_of(one, other):
    """The cells that are in both islands."""
    return tuple(sorted(set(one) & set(other)))


def without(one, other):
    """The cells that are in the first island alone."""
    return tuple(sorted(set(one) - set(other)))


def island_carried(island, by):
    # Carried alike, cells keep their order.
    return tuple([carried(cell, by) for cell in island])


def island_led(island, table):
    return tuple(sorted(each_led(table, island)))


def cut(island, slope, most):
    """The cells at which the slope's worth is at most so much."""
    return tuple([cell for cell in island if worth(slope, cell) <= most])


def outermost(island, slope):
    """The greatest worth of the slope on the island; None of the empty one."""
    return max([worth(slope, cell) for cell in island], default=None)
