"""Rules and books read from their texts."""

from healfloor.cells import stretch_of
from healfloor.errors import NoText
from healfloor.words import is_name, is_number, read_numbers

MOST_FIGURES = 4
MOST_LEAST_FIGURES = 2


def read_rule(text):
    """The rule that is written so, or NoText."""
    rule = rule_in(text)
    if rule is None:
        raise NoText(0)
    return rule


def read_book(text):
    """The book that is written so, or NoText of the first row that is none, or has the name of a row ahead."""
    rows = text.split("\n") if text else []
    ahead = {}
    book = []
    for number, row in enumerate(rows):
        pair = pair_in(row)
        if pair is None or pair[0] in ahead:
            raise NoText(number)
        ahead[pair[0]] = True
        book.append(pair)
    return tuple(book)


def pair_in(row):
    """The name and the rule that a book's row has, or None."""
    cut = row.partition(" = ")
    rule = rule_in(cut[2])
    if rule is None or not is_name(cut[0]):
        return None
    return (cut[0], rule)


def rule_in(text):
    """The rule that is written so, or None.

    A text may have as many brackets within one another as it has signs: those not closed yet stand in two lists,
    their heads, and the parts that each has so far (the first list of parts is the whole text's).
    """
    pieces = pieces_of(text)
    heads = []
    parts = [[]]
    at = 0
    while at < len(pieces):
        if pieces[at + 1:at + 2] == ["("]:
            head = head_at(pieces, at)
            if head is None:
                return None
            heads.append(head)
            parts.append([])
            at = at + (4 if head[0] in ("at", "by") else 2)
        else:
            leaf = leaf_in(pieces[at])
            if leaf is None:
                return None
            parts[-1].append(leaf)
            at = behind_part(pieces, at + 1, heads, parts)
            if at is None:
                return None
    return parts[0][0] if parts[0] and not heads else None


def pieces_of(text):
    """The text cut at its brackets and blanks, which are pieces themselves."""
    if "\n" in text:
        # Line feeds mark the cuts; one of the text's own is a piece that nothing takes.
        return ["\n"]
    for sign in ("(", ")", " "):
        text = text.replace(sign, "\n" + sign + "\n")
    return [piece for piece in text.split("\n") if piece != ""]


def head_at(pieces, at):
    """What a bracket's rule begins with, up to its parts; None where no bracket opens so."""
    word = pieces[at]
    if word in ("all", "any", "then"):
        return (word,)
    if is_number(word, MOST_LEAST_FIGURES):
        return ("least", int(word)) if int(word) >= 1 else None
    if word not in ("at", "by") or pieces[at + 3:at + 4] != [" "]:
        return None
    numbers = read_numbers(pieces[at + 2], 2 if word == "at" else 4, MOST_FIGURES)
    if numbers is None:
        return None
    if word == "at":
        return (word,) + numbers
    return (word, numbers) if stretch_of(numbers) != 0 else None


def leaf_in(piece):
    """The rule of a piece that has no bracket, or None."""
    if is_name(piece):
        return ("name", piece)
    numbers = read_numbers(piece, 2, MOST_FIGURES)
    return None if numbers is None else ("cell",) + numbers


def behind_part(pieces, at, heads, parts):
    """Where the next part begins: behind all brackets that close here, and a blank; None where it can't be."""
    while pieces[at:at + 1] == [")"]:
        if not heads:
            return None
        rule = closed(heads.pop(), tuple(parts.pop()))
        if rule is None:
            return None
        parts[-1].append(rule)
        at = at + 1
    if at == len(pieces):
        return at
    return at + 1 if heads and pieces[at] == " " else None


def closed(head, parts):
    """The rule of a bracket, by its head and all its parts; None where these aren't as many as it needs."""
    if head[0] in ("all", "any"):
        return head + (parts,)
    if head[0] == "least":
        return head + (parts,) if head[1] <= len(parts) else None
    due = 2 if head[0] == "then" else 1
    return head + parts if len(parts) == due else None
