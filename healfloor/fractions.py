"""Fractions: tuples (n, d) in lowest terms, d from 1 on."""


def common_divisor(one, other):
    """The greatest whole number that divides both; they aren't both nought."""
    one = abs(one)
    other = abs(other)
    while other:
        rest = one % other
        one = other
        other = rest
    return one


def fraction(upper, lower):
    """The fraction that is upper over lower; lower isn't nought."""
    divisor = common_divisor(upper, lower)
    if lower < 0:
        divisor = -divisor
    return (upper // divisor, lower // divisor)


def added(one, other):
    return fraction(one[0] * other[1] + other[0] * one[1], one[1] * other[1])


def less(one, other):
    """One less the other."""
    return added(one, (-other[0], other[1]))


def times(one, other):
    return fraction(one[0] * other[0], one[1] * other[1])


def over(one, other):
    """One over the other, which isn't nought."""
    return fraction(one[0] * other[1], one[1] * other[0])


def is_less(one, other):
    """Whether one is the lesser of both."""
    return one[0] * other[1] < other[0] * one[1]


def floor_of(one):
    """The greatest whole number that is at most the fraction."""
    return one[0] // one[1]


def ceiling_of(one):
    """The least whole number that is at least the fraction."""
    return -(-one[0] // one[1])
