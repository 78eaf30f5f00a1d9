"""Rules and books written as texts."""

from healfloor.rules import parts_of
from healfloor.words import show_numbers


def show_rule(rule):
    """The rule's text. Rules may be deeper than calls can go: what is still to be written is a list."""
    pieces = []
    waiting = [rule]
    while waiting:
        here = waiting.pop()
        if isinstance(here, str):
            pieces.append(here)
        else:
            pieces.append(front_of(here))
            waiting.extend(list(reversed(behind_front(here))))
    return "".join(pieces)


def front_of(rule):
    """What stands ahead of a rule's parts; of a cell or a name the whole of it."""
    form = rule[0]
    if form == "cell":
        return show_numbers(rule[1:])
    if form == "name":
        return rule[1]
    if form == "least":
        return show_numbers(rule[1:2]) + "("
    if form == "at":
        return "at(" + show_numbers(rule[1:3]) + " "
    if form == "by":
        return "by(" + show_numbers(rule[1]) + " "
    return form + "("


def behind_front(rule):
    """The parts of a rule with the texts between and behind them, as a list."""
    between = []
    for part in parts_of(rule):
        between.extend([" ", part])
    return between[1:] + [")"] if between else []


def show_book(book):
    """The book's text, a row for each pair."""
    return "\n".join([pair[0] + " = " + show_rule(pair[1]) for pair in book])
