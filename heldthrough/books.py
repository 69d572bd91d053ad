"""BOOKS: the VALUES of their readings, what keeps their RULES, and the BOOKS that come of them."""

from heldthrough.fractions import fraction, is_at_most, plus, whole


def value(reading, vector):
    """Return the VALUE of a READING at a VECTOR."""
    total = whole(0)
    for many, number in zip(reading, vector):
        # Sums of great numbers are slow, and most products may be 0.
        if many != 0 and number[0] != 0:
            total = plus(total, fraction(many * number[0], number[1]))
    return total


def keeps(rule, stand):
    """Tell whether a STAND keeps a RULE."""
    sign, reading, bound = rule
    found = value(reading, stand)
    return found == whole(bound) if sign == "=" else is_at_most(found, whole(bound))


def is_good(book, stand):
    """Tell whether a STAND is GOOD."""
    return broken(book, stand) == ()


def broken(book, stand):
    """Return the ascending tuple of the indexes of the RULES that a STAND doesn't keep."""
    return tuple([index for index, rule in enumerate(book[1]) if not keeps(rule, stand)])


def with_rule(book, rule):
    """Return the BOOK with one more RULE behind all others."""
    frame, rules = book
    return (frame, (*rules, rule))


def without_rule(book, index):
    """Return the BOOK without the RULE of this index."""
    frame, rules = book
    return (frame, rules[:index] + rules[index + 1:])


def in_frame(book, frame):
    """Return the BOOK with this FRAME in the place of its own."""
    return (frame, book[1])


def scaled(book, times):
    """Return the BOOK whose bounds are all multiplied by times."""
    frame, rules = book
    return (frame, tuple([(sign, reading, bound * times) for sign, reading, bound in rules]))
