"""What the RULES of a BOOK give: LIMITS by MULTIPLIERS, greatest VALUES, and whether there is a GOOD STAND."""

from heldthrough.errors import NoStand
from heldthrough.fractions import is_at_most, plus, times, whole
from heldthrough.programs import are_multipliers, given, is_proof, is_solved, solved


def limit_by(book, multipliers):
    """Return the tuple (vector, bound) that MULTIPLIERS GIVE."""
    frame, rules = book
    return given(rules, len(frame[0]), multipliers)


def is_multipliers(book, thing):
    """Tell whether a value is MULTIPLIERS of a BOOK."""
    return are_multipliers(book[1], thing)


def noughts(book):
    """Return the READING of all noughts."""
    return (0,) * len(book[0][0])


def no_stand(book):
    """Return MULTIPLIERS that prove that there is no GOOD STAND, None if there is one."""
    found = solved(book[1], noughts(book))
    return found[1] if found[0] == "none" else None


def is_no_stand(book, thing):
    """Tell whether a value is MULTIPLIERS that prove that there is no GOOD STAND."""
    return is_proof(book[1], noughts(book), thing)


def check_stand(book):
    """Raise NoStand if a BOOK has no GOOD STAND."""
    paper = no_stand(book)
    if paper is not None:
        raise NoStand(paper)


def some_stand(book):
    """Return a GOOD STAND, None if there is none."""
    found = solved(book[1], noughts(book))
    return None if found[0] == "none" else found[2]


def greatest(book, reading):
    """Return where a READING has its greatest VALUE, with the proof, or how it has any."""
    found = solved(book[1], reading)
    if found[0] == "none":
        raise NoStand(no_stand(book))
    return found


def is_greatest(book, reading, thing):
    """Tell whether a value is what greatest may return."""
    return is_solved(book[1], reading, thing) and thing[0] != "none"


def follows(book, rule):
    """Tell whether each GOOD STAND keeps a RULE."""
    return no_stand(book) is not None or all([is_limit(book, side) for side in sides_of(rule)])


def is_limit(book, side):
    """Tell whether a tuple (reading, bound) limits the VALUES at all GOOD STANDS."""
    reading, bound = side
    found = greatest(book, reading)
    return found[0] == "at" and is_at_most(found[1], whole(bound))


def sides_of(rule):
    """Return the list of tuples (reading, bound) by which a RULE limits VALUES: for the sign "=" there are two."""
    sign, reading, bound = rule
    return [(reading, bound)] if sign == "<=" else [(reading, bound), (turned(reading), -bound)]


def turned(reading):
    """Return the READING that has the opposite VALUES."""
    return tuple([-number for number in reading])


def worth(reading, vector):
    """Return the VALUE of a reading of FRACTIONS at a VECTOR."""
    total = whole(0)
    for one, other in zip(reading, vector):
        total = plus(total, times(one, other))
    return total
