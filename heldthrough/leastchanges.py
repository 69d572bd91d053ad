"""LEAST CHANGES of a SPACE, and the sums of them in which no cell goes to and fro."""

from itertools import combinations

from heldthrough.forms import is_fraction, is_tuple_of
from heldthrough.fractions import added, is_less, less, multiple, over, sign_of, times, vector_of, whole
from heldthrough.frames import moved
from heldthrough.spaces import has, is_whole_vector, primitive, within


def least_changes(space, many):
    """Return the ascending tuple of all LEAST CHANGES of a SPACE."""
    if space == ():
        return ()
    lines = [within(space, places, many) for places in lots_of_places(many, many - len(space) + 1)]
    return tuple(sorted(set([line[0] for line in lines if len(line) == 1])))


def lots_of_places(many, size):
    """Return the list of the ascending lists of so many places."""
    return [list(places) for places in combinations(range(many), size)]


def is_least_change(space, many, thing):
    """Tell whether a value is a LEAST CHANGE of a SPACE."""
    if not is_whole_vector(many, thing) or thing == (0,) * many or primitive(thing) != thing:
        return False
    vector = vector_of(thing)
    return has(space, vector) and len(within(space, moved(vector), many)) == 1


def conformal(space, vector):
    """Return a CONFORMAL SUM for a VECTOR in a SPACE."""
    many = len(vector)
    changes = least_changes(within(space, moved(vector), many), many)
    terms, rest = [], vector
    for change in changes:
        share = greatest_share(change, rest)
        # What doesn't fit the signs now doesn't fit them later: they only get fewer.
        if share is not None:
            terms.append((change, share))
            rest = less(rest, multiple(share, vector_of(change)))
    return tuple(terms)


def greatest_share(change, vector):
    """Return the FRACTION of greatest size by which a LEAST CHANGE can be taken from a VECTOR, None if it is 0.

    No cell of the VECTOR may get another sign by that, but 0.
    """
    shares = [over(number, whole(part)) for part, number in zip(change, vector) if part != 0]
    if len(set([sign_of(share) for share in shares])) > 1 or sign_of(shares[0]) == 0:
        return None
    least = shares[0]
    for share in shares:
        if is_less(times(share, share), times(least, least)):
            least = share
    return least


def is_conformal(space, vector, thing):
    """Tell whether a value is a CONFORMAL SUM for a VECTOR in a SPACE."""
    if not isinstance(thing, tuple) or len(thing) > len(space):
        return False
    if not all([is_term(space, len(vector), term) for term in thing]):
        return False
    changes = [term[0] for term in thing]
    if changes != sorted(set(changes)):
        return False
    parts = [multiple(term[1], vector_of(term[0])) for term in thing]
    total = (whole(0),) * len(vector)
    for one in parts:
        total = added(total, one)
    return total == vector and all([has_signs(one, vector) for one in parts])


def is_term(space, many, thing):
    """Tell whether a value is a tuple of a LEAST CHANGE and a FRACTION that is not 0."""
    if not is_tuple_of(thing, 2) or not is_fraction(thing[1]) or thing[1][0] == 0:
        return False
    return is_least_change(space, many, thing[0])


def has_signs(one, vector):
    """Tell whether the one VECTOR has in each cell 0 or the sign that the other has."""
    return all([sign_of(mine) in (0, sign_of(yours)) for mine, yours in zip(one, vector)])
