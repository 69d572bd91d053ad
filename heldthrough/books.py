"""BOOKS: the VALUES of their readings, what keeps their RULES, and the BOOKS that come of them."""

from math import lcm

from heldthrough.fractions import fraction, is_at_most, whole


def value(reading, vector):
    """Return the VALUE of a READING at a VECTOR."""
    # Long numbers are slow to reduce, so this is done once, and products that are 0 are left out.
    told = [(many * num, den) for many, (num, den) in zip(reading, vector) if many != 0 and num != 0]
    common = 1
    for _, den in told:
        common = lcm(common, den)
    return fraction(sum([num * (common // den) for num, den in told]), common)


def keeps(rule, stand):
    """Tell whether a STAND keeps a RULE."""
    sign, reading, bound = rule
    found = value(reading, stand)
    return found == whole(bound) if sign == "=" else is_at_most(found, whole(bound))


def is_good(book, stand):
    """Tell whether a STAND is GOOD."""
    return broken(book, stand) == ()


def broken(book, stand):
    """Return the ascending tuple of the indexes of the RULES that a STAND doesn't keep."""
    return tuple([index for index, rule in enumerate(book[1]) if not keeps(rule, stand)])


def with_rule(book, rule):
    """Return the BOOK with one more RULE behind all others."""
    frame, rules = book
    return (frame, (*rules, rule))


def without_rule(book, index):
    """Return the BOOK without the RULE of this index."""
    frame, rules = book
    return (frame, rules[:index] + rules[index + 1:])


def in_frame(book, frame):
    """Return the BOOK with this FRAME in the place of its own."""
    return (frame, book[1])


def scaled(book, times):
    """Return the BOOK whose bounds are all multiplied by times."""
    frame, rules = book
    return (frame, tuple([(sign, reading, bound * times) for sign, reading, bound in rules]))
