"""Steps: how fast half floors fall back, and beyond which numbers nothing is broken."""

from healfloor.cells import worth
from healfloor.islands import outermost
from healfloor.rows import exchanged


def fall_of(row, slope):
    """The least worth of the slope on the cells of the row."""
    return min([worth(slope, cell) for cell in row])


def step_of(plain, slope):
    """The slope's step, with a healing row on which its worth is nowhere less, and a breaking row, nowhere more."""
    healing = max(exchanged(plain), key=lambda row: fall_of(row, slope))
    breaking = min(plain, key=lambda row: outermost(row, slope))
    return (fall_of(healing, slope), healing, breaking)


def beyond(plain, island, slopes, many):
    """For each slope the number beyond which nothing is broken so many beats later; None of the empty island."""
    if island == ():
        return tuple([None for slope in slopes])
    return tuple([outermost(island, slope) - many * step_of(plain, slope)[0] for slope in slopes])
