"""The desk: rules and floors kept by names, and told of by rows of words."""

from healfloor.errors import NoDeed, NoName
from healfloor.fates import fate_of
from healfloor.floors import Floor
from healfloor.healing import sure_beats
from healfloor.islandtexts import read_island, show_island
from healfloor.living import LIVES
from healfloor.papertexts import show_paper
from healfloor.plain import look_names, plain_by
from healfloor.reading import read_rule
from healfloor.rows import bits_of
from healfloor.words import is_name, is_number

# What stands behind each deed's word. A text is the last thing: it takes all that is left of the row.
DEEDS = {
    "rule": ("name", "text"),
    "floor": ("name", "name"),
    "break": ("name", "text"),
    "mend": ("name", "text"),
    "beat": ("name", "count"),
    "back": ("name",),
    "show": ("name",),
    "fate": ("name",),
    "paper": ("name",),
    "sure": ("name",),
}
MOST_BEATS = 60
MOST_BEAT_FIGURES = 2
MOST_BROKEN = 400
MOST_FATE_CELLS = 6


class Desk:
    """Rules, as plain ones, and Floors, by names."""

    def __init__(self):
        self.rules = {}
        self.floors = {}

    def say(self, row):
        """Does what the row tells, and answers it; or refuses it, and changes nothing."""
        words = words_of(row)
        deed = words[0]
        if deed == "rule":
            return self.keep_rule(words[1], read_rule(words[2]))
        if deed == "floor":
            return self.keep_floor(words[1], known(words[2], self.rules))
        if deed in ("break", "mend"):
            cells = read_island(words[2])
            return change(known(words[1], self.floors), deed, cells)
        if deed in ("fate", "paper"):
            return tell_fate(known(words[1], self.rules), deed)
        floor = known(words[1], self.floors)
        if deed == "beat":
            return step(floor, int(words[2]))
        if deed == "back":
            return "back" if floor.back() else "nothing"
        return show_island(floor.broken()) if deed == "show" else tell_sure(floor)

    def keep_rule(self, name, rule):
        look_names(rule, self.rules)
        plain = plain_by(rule, self.rules)
        self.rules[name] = plain
        many = len(plain)
        return f"kept {many}"

    def keep_floor(self, name, plain):
        self.floors[name] = Floor(plain)
        return "kept"


def words_of(row):
    """The deed's word and what stands behind it, or NoDeed."""
    if "\n" in row or "" in row.split(" "):
        raise NoDeed()
    words = row.split(" ", 2)
    if words[0] not in DEEDS:
        raise NoDeed()
    due = DEEDS[words[0]]
    if len(due) != len(words) - 1 or not all([fits(word, form) for word, form in zip(words[1:], due)]):
        raise NoDeed()
    return words


def fits(word, form):
    if form == "name":
        return is_name(word)
    if form == "count":
        return is_number(word, MOST_BEAT_FIGURES) and 1 <= int(word) <= MOST_BEATS
    return True


def known(name, things):
    """What is kept by the name, or NoName."""
    if name not in things:
        raise NoName(name)
    return things[name]


def change(floor, deed, cells):
    """Breaks or mends the cells."""
    if deed == "break":
        floor.broke(cells)
    else:
        floor.mend(cells)
    return how_many(floor)


def step(floor, many):
    """So many beats of the floor, or NoDeed where too much is broken."""
    if len(floor.broken()) > MOST_BROKEN:
        raise NoDeed()
    floor.go(many)
    return how_many(floor)


def how_many(floor):
    return str(len(floor.broken()))


def small_fate(plain):
    """The rule's fate, or NoDeed where it has too many cells."""
    if len(bits_of(plain)) > MOST_FATE_CELLS:
        raise NoDeed()
    return fate_of(plain)


def tell_fate(plain, deed):
    """The fate's word, or all of its paper in one row."""
    paper = small_fate(plain)
    return paper[0] if deed == "fate" else show_paper(paper).replace("\n", " / ")


def tell_sure(floor):
    """By how many beats the floor is whole, where its rule's fate tells that."""
    paper = small_fate(floor.plain)
    return "never sure" if paper[0] == LIVES else str(sure_beats(paper, floor.broken()))
