"""Rows of cells: the least ones, plain rules, and the rows that heal."""

from healfloor.cells import lookup_of
from healfloor.errors import TooMany

MOST_CELLS = 8


def bits_of(rows):
    """A bit for each cell of the rows, so that a row is one whole number, and is compared with others in one step."""
    bits = {}
    bit = 1
    for row in rows:
        for cell in row:
            if cell not in bits:
                bits[cell] = bit
                bit = bit + bit
    return bits


def mask_of(row, bits):
    mask = 0
    for cell in row:
        mask = mask | bits[cell]
    return mask


def masks_of(rows, bits):
    return [mask_of(row, bits) for row in rows]


def shared_bits(plains):
    """A bit for each cell of these plain rules together; refused where they are more than a plain rule may have."""
    rows = []
    for plain in plains:
        rows.extend(plain)
    bits = bits_of(rows)
    if len(bits) > MOST_CELLS:
        raise TooMany(MOST_CELLS)
    return bits


def has_within(mask, others):
    """Whether one of the others lies within the mask."""
    return any([other & mask == other for other in others])


def rows_that_break(bits, is_breaking):
    """The least rows of the cells whose masks are breaking; where one is, each that it lies within must be, too."""
    least = []
    # Whatever lies within a mask is a lesser number: it was looked at ahead of it.
    for mask in range(1, sum(bits.values()) + 1):
        if not has_within(mask, least) and is_breaking(mask):
            least.append(mask)
    return tuple(sorted([row_of(mask, bits) for mask in least]))


def least_rows(rows):
    """Those rows that have no other one within them, rising, each once."""
    bits = bits_of(rows)
    masks = []
    least = []
    # Shorter ones first: so whatever lies within a row stands already there when it is looked at.
    for row in sorted(rows, key=len):
        mask = mask_of(row, bits)
        if not has_within(mask, masks):
            masks.append(mask)
            least.append(row)
    return tuple(sorted(least))


def is_rising(cells):
    return all([one < other for one, other in zip(cells, cells[1:])])


def is_plain(thing):
    """Whether a tuple of tuples of cells is a plain rule."""
    if thing == () or not all([row != () and is_rising(row) for row in thing]):
        return False
    return len(bits_of(thing)) <= MOST_CELLS and least_rows(thing) == thing


def exchanged(plain):
    """The least healing rows of a plain rule."""
    bits = bits_of(plain)
    healing = [0]
    for row in plain:
        healing = healing_also(healing, [bits[cell] for cell in row])
    return tuple(sorted([row_of(mask, bits) for mask in healing]))


def healing_also(healing, row):
    """The least masks that have one of the row's bits, too, by those that do for all rows ahead."""
    mask = sum(row)
    met = [one for one in healing if one & mask]
    told = list(met)
    # Grown ones never lie within one another: each has just one bit of the row, and its rest was least.
    for one in healing:
        if not one & mask:
            grown = [one | bit for bit in row]
            told.extend([other for other in grown if not has_within(other, met)])
    return told


def row_of(mask, bits):
    return tuple(sorted([cell for cell in bits if bits[cell] & mask]))


def breaks_by(plain, cells):
    """Whether (0, 0) breaks where just these cells are broken."""
    broken = lookup_of(cells)
    return any([all([cell in broken for cell in row]) for row in plain])


def is_healing(plain, row):
    """Whether the row has a cell in common with each breaking row."""
    healing = lookup_of(row)
    return all([any([cell in healing for cell in breaking]) for breaking in plain])


def at_most_as_bad(one, other):
    """Whether whatever the one rule breaks is broken by the other, too."""
    return all([breaks_by(other, row) for row in one])
