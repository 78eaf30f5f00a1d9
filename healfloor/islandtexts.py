"""Islands written and read."""

from healfloor.errors import NoText
from healfloor.rows import is_rising
from healfloor.words import read_numbers, show_numbers

EMPTY = "."
MOST_FIGURES = 19


def show_island(island):
    """The island's cells, in order, parted by blanks; a stop of the empty one."""
    if island == ():
        return EMPTY
    return " ".join([show_numbers(cell) for cell in island])


def read_island(text):
    """The island that is written so, or NoText."""
    if text == EMPTY:
        return ()
    cells = tuple([read_numbers(word, 2, MOST_FIGURES) for word in text.split(" ")])
    if None in cells or not is_rising(cells):
        raise NoText(0)
    return cells
