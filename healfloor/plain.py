"""The one plain rule that is the same as a rule."""

from healfloor.cells import lookup_of
from healfloor.changes import behind, plain_carried, plain_led
from healfloor.errors import NoName
from healfloor.rows import has_within, masks_of, rows_that_break, shared_bits
from healfloor.rules import least_of, names_in, parts_of


def plain_of(rule, book=None):
    """The plain rule that breaks what the rule breaks, by a book for the names; or NoName, then TooMany."""
    pairs = () if book is None else book
    look_names(rule, pairs)
    plains = {}
    # The rules of a book have names of pairs ahead only: each is reckoned when all that it needs is known.
    for name, needed in needed_pairs(rule, pairs):
        plains[name] = plain_by(needed, plains)
    return plain_by(rule, plains)


def look_names(rule, book):
    """Refuses the first name in the rule that the book doesn't have."""
    known = dict(book)
    for name in names_in(rule):
        if name not in known:
            raise NoName(name)


def needed_pairs(rule, book):
    """The pairs of the book that the rule needs, itself or through others, in the book's order."""
    names = lookup_of(names_in(rule))
    needed = []
    for pair in reversed(book):
        if pair[0] in names:
            needed.append(pair)
            names.update(lookup_of(names_in(pair[1])))
    return list(reversed(needed))


def plain_by(rule, plains):
    """The rule's plain rule, by those of the names; parts first, so that no depth is too great for it."""
    done = []
    for here in parts_first(rule):
        start = len(done) - len(parts_of(here))
        done = done[:start] + [plain_by_parts(here, done[start:], plains)]
    return done[0]


def parts_first(rule):
    """The rule and all within it, each behind its parts, these from left to right."""
    rules = []
    waiting = [rule]
    while waiting:
        here = waiting.pop()
        rules.append(here)
        waiting.extend(list(parts_of(here)))
    return list(reversed(rules))


def plain_by_parts(rule, parts, plains):
    """The rule's plain rule, by those of its parts and of the names."""
    form = rule[0]
    if form == "cell":
        return ((rule[1:],),)
    if form == "name":
        return plains[rule[1]]
    if form == "at":
        return plain_carried(parts[0], rule[1:3])
    if form == "by":
        # Led behind all within is the same as all within led: tables lead sums to the sums of what they lead.
        return plain_led(parts[0], rule[1])
    if form == "then":
        return behind(parts[0], parts[1])
    return plain_of_least(least_of(rule), parts)


def plain_of_least(least, plains):
    """The plain rule of at least so many of these plain rules, or TooMany."""
    bits = shared_bits(plains)
    parts = [masks_of(plain, bits) for plain in plains]
    return rows_that_break(bits, lambda mask: len([part for part in parts if has_within(mask, part)]) >= least)
