"""What several tests have in common: rules by chance, and what rules and rows do reckoned in another way."""

import itertools
from fractions import Fraction


def chance_cell(chance, far=3):
    return (chance.randint(-far, far), chance.randint(-far, far))


def chance_table(chance, far=2):
    while True:
        table = tuple([chance.randint(-far, far) for k in range(4)])
        if table[0] * table[3] != table[1] * table[2]:
            return table


def chance_rule(chance, deep, names=(), thens=2):
    """A rule by chance, at most so deep, with at most so many "then" one within another."""
    form = chance.choice(("cell", "name", "all", "any", "least", "at", "by", "then"))
    if form == "name" and names:
        return ("name", chance.choice(names))
    if deep <= 1 or form in ("cell", "name") or (form == "then" and thens == 0):
        return ("cell",) + chance_cell(chance)

    def part(fewer=0):
        return chance_rule(chance, deep - 1, names, thens - fewer)

    if form == "at":
        return ("at",) + chance_cell(chance) + (part(),)
    if form == "by":
        return ("by", chance_table(chance), part())
    if form == "then":
        return ("then", part(1), part(1))
    parts = tuple([part() for k in range(chance.randint(1, 4))])
    if form == "least":
        return ("least", chance.randint(1, len(parts)), parts)
    return (form, parts)


def all_broken(rule, broken, tables=()):
    """All cells that a rule breaks, as a set, from the set of all broken ones: whole floors, never a single cell."""

    def moved(cells, by):
        for table in reversed(tables):
            by = (table[0] * by[0] + table[1] * by[1], table[2] * by[0] + table[3] * by[1])
        return {(cell[0] - by[0], cell[1] - by[1]) for cell in cells}

    form = rule[0]
    if form == "cell":
        return moved(broken, rule[1:])
    if form == "at":
        return moved(all_broken(rule[3], broken, tables), rule[1:3])
    if form == "by":
        return all_broken(rule[2], broken, tables + (rule[1],))
    if form == "then":
        return all_broken(rule[2], all_broken(rule[1], broken, tables), tables)
    each = [all_broken(part, broken, tables) for part in rule[-1]]
    least = {"all": len(each), "any": 1}.get(form) or rule[1]
    return {cell for cell in set().union(*each) if sum([cell in part for part in each]) >= least}


def plain_text(rule):
    """A rule's text, by calls: of rules that aren't deep."""
    form = rule[0]
    if form == "cell":
        return "%d,%d" % rule[1:]
    if form == "name":
        return rule[1]
    if form == "at":
        return "at(%d,%d %s)" % (rule[1], rule[2], plain_text(rule[3]))
    if form == "by":
        return "by(%d,%d,%d,%d %s)" % (rule[1] + (plain_text(rule[2]),))
    if form == "then":
        return "then(%s %s)" % (plain_text(rule[1]), plain_text(rule[2]))
    head = "%d" % rule[1] if form == "least" else form
    return "%s(%s)" % (head, " ".join([plain_text(part) for part in rule[-1]]))


def kinds_in(thing):
    """The kinds of all that a told thing has within it, however deep."""
    kinds, waiting = set(), [thing]
    while waiting:
        here = waiting.pop()
        kinds.add(type(here))
        if isinstance(here, (tuple, list)):
            waiting.extend(here)
    return kinds


def some_of(cells):
    """All rows of some of the cells, at least one."""
    cells = sorted(cells)
    return [row for many in range(1, len(cells) + 1) for row in itertools.combinations(cells, many)]


def least_by_hand(rows):
    least = {row for row in rows if not any(set(other) < set(row) for other in rows)}
    return tuple(sorted(least))


def cells_of(plain):
    return sorted({cell for row in plain for cell in row})


def healing_by_hand(plain):
    return least_by_hand([row for row in some_of(cells_of(plain)) if all(set(row) & set(other) for other in plain)])


def chance_plain(chance, cells):
    rows = some_of(cells)
    return least_by_hand(chance.sample(rows, chance.randint(1, min(len(rows), 12))))


def value(slope, cell):
    return slope[0] * cell[0] + slope[1] * cell[1]


def turn_of(one, other, third):
    """Above nought where the third point lies left of the way from one to the other; all of Python's own fractions."""
    return (other[0] - one[0]) * (third[1] - one[1]) - (other[1] - one[1]) * (third[0] - one[0])


def in_triangle(point, corners):
    """Whether the point lies in the triangle, also where this is a stretch or a point."""
    a, b, c = corners
    turns = [turn_of(a, b, point), turn_of(b, c, point), turn_of(c, a, point)]
    if any(turns):
        return min(turns) >= 0 or max(turns) <= 0
    # All on one line: within the ends both ways.
    return all([min(a[k], b[k], c[k]) <= point[k] <= max(a[k], b[k], c[k]) for k in (0, 1)])


def in_hull_by_hand(cells, point):
    """Whether the point, of two numbers or fractions of Python's own, lies in a triangle of the cells."""
    triples = itertools.combinations_with_replacement(sorted(set(cells)), 3)
    return any(in_triangle(point, triple) for triple in triples)


def as_numbers(point):
    """A point as two fractions of Python's own."""
    return (Fraction(*point[0]), Fraction(*point[1]))


def as_point(numbers):
    """Two numbers or fractions of Python's own as a point."""
    return tuple([(Fraction(number).numerator, Fraction(number).denominator) for number in numbers])


def swapped(thing, at, part):
    """A tuple with another part in one place."""
    return thing[:at] + (part,) + thing[at + 1:]


def heals_by_hand(plain, paper):
    """Whether a healing paper holds, by the words alone."""
    word, rows, slopes = paper
    if word != "heals" or not (len(rows) == len(slopes) and 1 <= len(rows) <= 8) or () in rows:
        return False
    if not all([set(row) & set(breaking) for row in rows for breaking in plain]):
        return False
    if (sum([a for a, b in slopes]), sum([b for a, b in slopes])) != (0, 0):
        return False
    return sum([min([value(slope, cell) for cell in row]) for row, slope in zip(rows, slopes)]) >= 1


def in_land_by_hand(ring, point):
    """Whether a point of Python's own numbers lies left of all sides, or on their lines."""
    return all([turn_of(ring[at - 1], ring[at], point) >= 0 for at in range(len(ring))])


def lives_by_hand(plain, paper):
    """Whether a living paper holds, by the words alone."""
    word, v, ring, o, q, rows = paper
    if word != "lives" or len(ring) < 3 or any([ring[at - 1] == ring[at] for at in range(len(ring))]):
        return False
    if len(rows) != len(ring) or not all([any([set(row) >= set(one) for one in plain]) for row in rows]):
        return False
    square = [(q[0] + i, q[1] + j) for i in (0, 1) for j in (0, 1)]
    if not all([in_land_by_hand(ring, cell) for cell in list(ring) + [o] + square]):
        return False
    left, up = as_numbers(v)
    for at, row in enumerate(rows):
        for x, y in (o, ring[at], ring[(at + 1) % len(ring)]):
            if not all([in_land_by_hand(ring, (x + z[0] - left, y + z[1] - up)) for z in row]):
                return False
    return True


def land_by_hand(ring, least, most):
    """All cells of the land in a window."""
    return tuple([(x, y) for x in range(least, most + 1) for y in range(least, most + 1)
                  if in_land_by_hand(ring, (x, y))])
