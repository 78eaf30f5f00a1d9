"""Beats: islands stepped by plain rules."""

from healfloor.rows import bits_of, has_within, masks_of


def beat(plain, island):
    """The island that is broken a beat later."""
    bits = bits_of(plain)
    masks = masks_of(plain, bits)
    around = masks_around(bits, island)
    # There are far more cells than ways to look around one: each way is reckoned once.
    known = {}
    for mask in around.values():
        if mask not in known:
            known[mask] = has_within(mask, masks)
    return tuple(sorted([cell for cell in around if known[around[cell]]]))


def masks_around(bits, island):
    """For each cell that has a broken one where the rule looks: the mask of all broken ones that it sees there."""
    around = {}
    for beside, bit in bits.items():
        for broken in island:
            cell = (broken[0] - beside[0], broken[1] - beside[1])
            around[cell] = around.get(cell, 0) | bit
    return around


def beats(plain, island, many):
    """The island that is broken so many beats later."""
    left = many
    # Where all is whole it stays so.
    while left > 0 and island != ():
        island = beat(plain, island)
        left = left - 1
    return island


def whole_behind(plain, island, most):
    """The first number of beats, at most so many, behind which all is whole, or None."""
    many = 0
    while many < most and island != ():
        island = beat(plain, island)
        many = many + 1
    return many if island == () else None
