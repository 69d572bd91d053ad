"""What the document says of POINTS, MULTIPLIERS and their papers, told once more in Python's own Fractions."""

from fractions import Fraction

from tests.makers import told


def is_fraction_by_words(thing):
    """Tell whether a value is a FRACTION."""
    if type(thing) is not tuple or len(thing) != 2 or not all(type(number) is int for number in thing):
        return False
    return thing[1] > 0 and (Fraction(thing[0], thing[1]).numerator, Fraction(thing[0], thing[1]).denominator) == thing


def fractions_by_words(thing, many):
    """Return the numbers of a tuple of so many FRACTIONS, None for what is none."""
    if type(thing) is not tuple or len(thing) != many or not all(is_fraction_by_words(one) for one in thing):
        return None
    return [told(one) for one in thing]


def dot(numbers, others):
    """Return the sum of the products."""
    return sum((number * other for number, other in zip(numbers, others)), Fraction(0))


def is_point_by_words(rows, point, level=1):
    """Tell whether numbers are a POINT of the rows; a WAY, if level is 0."""
    for sign, numbers, bound in rows:
        found = dot(numbers, point)
        if found > bound * level or (sign == "=" and found != bound * level):
            return False
    return True


def given_by_words(rows, many, thing):
    """Return what MULTIPLIERS GIVE as a list of numbers, the bound behind; None for what is no MULTIPLIERS."""
    shares = fractions_by_words(thing, len(rows))
    if shares is None or any(share < 0 and row[0] == "<=" for share, row in zip(shares, rows)):
        return None
    return [dot(shares, [row[1][k] for row in rows]) for k in range(many)] + [dot(shares, [row[2] for row in rows])]


def is_solved_by_words(rows, goal, thing):
    """Tell whether a value is one of the three, as the document describes them."""
    many = len(goal)
    if type(thing) is not tuple or not thing or type(thing[0]) is not str:
        return False
    if thing[0] == "none" and len(thing) == 2:
        given = given_by_words(rows, many, thing[1])
        return given is not None and given[:-1] == [0] * many and given[-1] < 0
    if thing[0] == "endless" and len(thing) == 3:
        point, way = fractions_by_words(thing[1], many), fractions_by_words(thing[2], many)
        if point is None or way is None or not is_point_by_words(rows, point) or not is_point_by_words(rows, way, 0):
            return False
        return dot(goal, way) > 0
    if thing[0] == "at" and len(thing) == 4:
        point, given = fractions_by_words(thing[2], many), given_by_words(rows, many, thing[3])
        if not is_fraction_by_words(thing[1]) or point is None or given is None or not is_point_by_words(rows, point):
            return False
        return dot(goal, point) == told(thing[1]) and given == [*goal, told(thing[1])]
    return False
