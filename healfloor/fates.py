"""The fate of each plain rule, and whether papers of either sort hold."""

from healfloor.healing import HEALS, healing_holds
from healfloor.living import land_of, living_holds
from healfloor.meets import meet_of
from healfloor.rows import exchanged
from healfloor.slopes import parting_of


def fate_of(plain):
    """A healing paper or a living paper that holds for the plain rule."""
    healing = exchanged(plain)
    parted = parting_of(healing)
    if parted is not None:
        return (HEALS,) + parted
    # Where nothing parts the healing rows, their hulls have a point in common.
    return land_of(plain, meet_of(healing)[0])


def holds(plain, paper):
    """Whether the paper, of either sort, holds for the plain rule."""
    return healing_holds(plain, paper) or living_holds(plain, paper)
