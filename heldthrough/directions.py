"""DIRECTIONS of a BOOK: where its GOOD STANDS can lead, and what is equal at all of them."""

from heldthrough.books import is_good, value
from heldthrough.forms import is_vector
from heldthrough.fractions import added, floor_of, less, minus, multiple, over, sign_of, whole
from heldthrough.limits import check_stand, greatest, no_stand, some_stand, turned
from heldthrough.spaces import common_den, first_place, rounded, space_of, sum_by, sum_of_products, upright

# A den of more bits than this is shortened, where it can be.
LONG = 133


def spread_stands(book):
    """Return a list of GOOD STANDS, at one of which the VALUE is below the bound for each RULE for which it can be."""
    check_stand(book)
    stands = [some_stand(book)]
    for rule in book[1]:
        if rule[0] == "<=" and is_met_by(rule, stands):
            low = low_stand(book, rule)
            if not is_met_by(rule, [low]):
                stands.append(low)
    return stands


def is_met_by(rule, stands):
    """Tell whether the VALUE is equal to the bound of a RULE at all of some STANDS."""
    return all([value(rule[1], stand) == whole(rule[2]) for stand in stands])


def low_stand(book, rule):
    """Return a GOOD STAND at which the VALUE is below the bound of a RULE, if there is one."""
    found = greatest(book, turned(rule[1]))
    return found[2] if found[0] == "at" else added(found[1], found[2])


def exact_rules(book):
    """Return the ascending tuple of the indexes of the RULES that all GOOD STANDS keep with their bound."""
    stands = spread_stands(book)
    return tuple([index for index, rule in enumerate(book[1]) if is_met_by(rule, stands)])


def inner(book):
    """Return an INNER STAND."""
    stands = spread_stands(book)
    total = stands[0]
    for stand in stands[1:]:
        total = added(total, stand)
    middle = multiple((1, len(stands)), total)
    return nearby(book, middle, stands[0], flat_by(book, stands)) if common_den(middle).bit_length() > LONG else middle


def nearby(book, middle, start, space):
    """Return an INNER STAND near to another one, but of shorter numbers: by these it differs from where to start.

    The CHANGE from there is in a SPACE, which is in the DIRECTIONS.
    """
    parts, way = 1, less(middle, start)
    for sign, reading, bound in book[1]:
        left = minus(whole(bound), value(reading, middle))
        if sign_of(left) > 0:
            # Of each limit about half of what was left still is.
            wide = sum([abs(sum_of_products(reading, row)) for row in space])
            parts = max(parts, floor_of(over(whole(2 * wide), left)) + 1)
    shares = [over(way[first_place(row)], whole(row[first_place(row)])) for row in space]
    return sum_by(rounded(shares, parts), space, start)


def is_inner(book, thing):
    """Tell whether a value is an INNER STAND."""
    if no_stand(book) is not None or not is_vector(book[0], thing) or not is_good(book, thing):
        return False
    exact = exact_rules(book)
    return all([index in exact or not is_met_by(rule, [thing]) for index, rule in enumerate(book[1])])


def directions(book):
    """Return the DIRECTIONS of a BOOK."""
    return flat_by(book, spread_stands(book))


def flat_by(book, stands):
    """Return the DIRECTIONS of a BOOK that has spread STANDS."""
    many = len(book[0][0])
    readings = [rule[1] for rule in book[1] if is_met_by(rule, stands)]
    return upright(space_of(readings, many), many)


def equations(book):
    """Return the tuple of tuples (member, value): what all GOOD STANDS have in common."""
    members, stand = upright(directions(book), len(book[0][0])), some_stand(book)
    return tuple([(member, value(member, stand)) for member in members])
