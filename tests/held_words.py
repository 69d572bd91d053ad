"""What is SAFE, HELD, INSIDE, and what papers of it are, as the document defines them, without haste."""

from fractions import Fraction
from math import lcm

from heldthrough.programs import solved
from tests.linear import (directions_by_words, do_cross, drift_by_words, is_in, least_changes_by_words, outsides_by_words)
from tests.makers import good, told
from tests.words import dot, fractions_by_words, given_by_words, is_fraction_by_words, is_solved_by_words


def changes_by_words(book):
    """Return the LEAST CHANGES of a BOOK."""
    return least_changes_by_words(drift_by_words(book[0], directions_by_words(book)), len(book[0][0]))


def unsafe_by_words(frame, changes, reading):
    """Return the list of couples of LEAST CHANGES by which a reading is not SAFE."""
    moving = [one for one in changes if dot(reading, one) != 0]
    return [(one, other) for one in moving for other in moving if one <= other and not do_cross(frame, one, other)]


def rows_along(book, point, space, level):
    """Return rows for the shares of a SPACE's members that, added to a point, keep the RULES; their bounds are 0 if level is."""
    rows = []
    for sign, reading, bound in book[1]:
        room = bound * level - dot(reading, point)
        scale = lcm(Fraction(room).denominator, 1)
        numbers = [int(dot(reading, row)) * scale for row in space] or [0]
        rows.append((sign, tuple(numbers), int(room * scale)))
    return tuple(rows)


def checked(case, rows, goal):
    """Return what solved tells, if it is right."""
    found = solved(rows, goal)
    case.assertTrue(is_solved_by_words(rows, goal, found))
    return found


def is_held_by_words(case, book, spaces, point, level=1):
    """Tell whether for each OUTSIDE some GOOD STAND differs from a point by a VECTOR in it."""
    return all(checked(case, rows_along(book, point, space, level), (0,) * max(1, len(space)))[0] != "none" for space in spaces)


def exact_by_words(book):
    """Return the list of the indexes of the RULES that are met with their bounds at all GOOD STANDS."""
    found = [solved(book[1], tuple(-number for number in reading)) for sign, reading, bound in book[1]]
    return [index for index, one in enumerate(found) if one[0] == "at" and told(one[1]) == -book[1][index][2]]


def place_by_words(case, book, spaces, point):
    """Return where a point is, as place tells it."""
    if not is_held_by_words(case, book, spaces, point):
        return "out"
    exact = exact_by_words(book)
    for space in spaces:
        rows = rows_along(book, point, space, 1)
        rows = tuple((sign, numbers + (0 if index in exact else 1,), bound) for index, (sign, numbers, bound) in enumerate(rows))
        goal = (0,) * (len(rows[0][1]) - 1 if rows else max(1, len(space))) + (1,)
        found = checked(case, (*rows, ("<=", goal, 1)), goal)
        if told(found[1]) <= 0:
            return "rim"
    return "inside"


def is_held_paper_by_words(book, spaces, changes, stand, thing):
    """Tell whether a value is what held_paper may return of a STAND."""
    many, point = len(stand), [told(number) for number in stand]
    if type(thing) is not tuple or len(thing) != 2 or type(thing[0]) is not str:
        return False
    if thing[0] == "held":
        if type(thing[1]) is not tuple or len(thing[1]) != len(spaces):
            return False
        near = [fractions_by_words(one, many) for one in thing[1]]
        if any(one is None for one in near) or not all(good(book, one) for one in thing[1]):
            return False
        return all(is_in(space, [a - b for a, b in zip(one, point)]) for space, one in zip(spaces, near))
    given = given_by_words(book[1], many, thing[1])
    if thing[0] != "out" or given is None:
        return False
    return not unsafe_by_words(book[0], changes, given[:-1]) and dot(given[:-1], point) > given[-1]


def is_greatest_held_by_words(case, book, spaces, reading, thing):
    """Tell whether a value is what greatest_held may return of a READING."""
    many = len(reading)
    if type(thing) is not tuple or not thing or type(thing[0]) is not str:
        return False
    if thing[0] == "endless" and len(thing) == 3:
        point, way = fractions_by_words(thing[1], many), fractions_by_words(thing[2], many)
        if point is None or way is None or dot(reading, way) <= 0:
            return False
        return is_held_by_words(case, book, spaces, point) and is_held_by_words(case, book, spaces, way, 0)
    if thing[0] != "at" or len(thing) != 4 or not is_fraction_by_words(thing[1]) or type(thing[3]) is not tuple or len(thing[3]) != len(spaces):
        return False
    point, given = fractions_by_words(thing[2], many), [given_by_words(book[1], many, one) for one in thing[3]]
    if point is None or any(one is None for one in given) or dot(reading, point) != told(thing[1]):
        return False
    if any(dot(one[:-1], row) != 0 for one, space in zip(given, spaces) for row in space):
        return False
    total = [sum((one[k] for one in given), Fraction(0)) for k in range(many + 1)]
    return total == [*reading, told(thing[1])] and is_held_by_words(case, book, spaces, point)


def looked_at(book):
    """Return the least OUTSIDES and the LEAST CHANGES of a BOOK; None if these are too many to look at."""
    spaces = outsides_by_words(book)
    return None if spaces is None else (spaces, changes_by_words(book))
