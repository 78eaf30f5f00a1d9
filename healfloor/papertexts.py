"""Papers written and read."""

from healfloor.errors import NoText
from healfloor.fractions import common_divisor
from healfloor.healing import HEALS
from healfloor.living import LEAST_RING, LIVES
from healfloor.words import is_number, read_numbers, show_number, show_numbers

STROKE = " | "
MOST_FIGURES = 40


def show_paper(paper):
    """The paper's rows, parted by line feeds."""
    if paper[0] == HEALS:
        rows = [HEALS] + shown_pairs(paper[2], paper[1])
    else:
        rows = [LIVES + " " + show_point(paper[1]), show_cells(paper[3:5])] + shown_pairs(paper[2], paper[5])
    return "\n".join(rows)


def shown_pairs(heads, rows):
    """A row for each slope, or cell of a ring, with the cells that go with it."""
    return [show_numbers(head) + STROKE + show_cells(row) for head, row in zip(heads, rows)]


def show_cells(cells):
    return " ".join([show_numbers(cell) for cell in cells])


def show_point(point):
    return ",".join([show_fraction(one) for one in point])


def show_fraction(one):
    upper = show_number(one[0])
    return upper if one[1] == 1 else upper + "/" + show_number(one[1])


def read_paper(text):
    """The paper that is written so, or NoText of the first row that is none, or of the one that lacks."""
    rows = text.split("\n")
    if rows[0] == HEALS:
        pairs = read_pairs(rows, 1, 1)
        return (HEALS, behind_strokes(pairs), ahead_of_strokes(pairs))
    v = point_in(rows[0])
    if v is None:
        raise NoText(0)
    cells = cells_in(rows[1]) if len(rows) > 1 else None
    if cells is None or len(cells) != 2:
        raise NoText(1)
    pairs = read_pairs(rows, 2, LEAST_RING)
    return (LIVES, v, ahead_of_strokes(pairs)) + cells + (behind_strokes(pairs),)


def read_pairs(rows, start, least):
    """What stands ahead of the stroke and behind it, of each row from this one on, at least of so many."""
    pairs = []
    for number, row in enumerate(rows[start:], start=start):
        pair = pair_in(row)
        if pair is None:
            raise NoText(number)
        pairs.append(pair)
    if len(pairs) < least:
        raise NoText(len(rows))
    return pairs


def ahead_of_strokes(pairs):
    return tuple([pair[0] for pair in pairs])


def behind_strokes(pairs):
    return tuple([pair[1] for pair in pairs])


def pair_in(row):
    """The two numbers ahead of the row's stroke and the cells behind it, or None."""
    cut = row.partition(STROKE)
    head = read_numbers(cut[0], 2, MOST_FIGURES)
    cells = cells_in(cut[2])
    return None if head is None or cells is None else (head, cells)


def cells_in(text):
    """The cells that are written so, one at least, or None."""
    cells = tuple([read_numbers(word, 2, MOST_FIGURES) for word in text.split(" ")])
    return None if None in cells else cells


def point_in(row):
    """The point of a living paper's first row, or None."""
    cut = row.partition(" ")
    point = tuple([fraction_in(word) for word in cut[2].split(",")])
    if cut[0] != LIVES or len(point) != 2 or None in point:
        return None
    return point


def fraction_in(text):
    """The fraction that is written so, or None."""
    words = text.split("/")
    if len(words) > 2 or not all([is_number(word, MOST_FIGURES) for word in words]):
        return None
    upper = int(words[0])
    if len(words) == 1:
        return (upper, 1)
    lower = int(words[1])
    # One over 1 is written without it.
    return (upper, lower) if lower > 1 and common_divisor(upper, lower) == 1 else None
