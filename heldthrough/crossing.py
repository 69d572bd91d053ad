"""Which LEAST CHANGES CROSS, their FAMILIES, and what is outside of these."""

from heldthrough.errors import TooMany
from heldthrough.fractions import vector_of
from heldthrough.frames import touched
from heldthrough.spaces import space_of

MOST_FAMILIES = 400


def crosses(frame, one, other):
    """Tell whether two LEAST CHANGES CROSS."""
    return do_meet(lot_of(frame, one), lot_of(frame, other))


def lot_of(frame, numbers):
    """Return the LOT of the groups that a WHOLE VECTOR TOUCHES."""
    return touched(frame, vector_of(numbers))


def do_meet(one, other):
    """Tell whether two LOTS have a group in common."""
    return any([index in other for index in one])


def uncrossed(frame, changes):
    """Return the ascending tuple of the couples of indexes of LEAST CHANGES that do not CROSS."""
    lots = [lot_of(frame, one) for one in changes]
    many = range(len(lots))
    return tuple([(i, j) for i in many for j in many if i <= j and not do_meet(lots[i], lots[j])])


def is_part(one, other):
    """Tell whether all groups of the one LOT are in the other."""
    return all([index in other for index in one])


def families(frame, changes):
    """Return the ascending tuple of all FAMILIES of some LEAST CHANGES."""
    return greatest_lots(crossed_ones(frame, changes))


def greatest_lots(near):
    """Return the ascending tuple of all greatest ascending tuples of indexes, any two of which are near to each other.

    The indexes are the keys of a dict, ascending, to dicts of those that are near, each one to itself as well.
    """
    found = [()]
    for index in near:
        found = with_index(near, found, index)
        # Those of the first indexes are never more than those of all, so there is no need to go on.
        if len(found) > MOST_FAMILIES:
            raise TooMany(MOST_FAMILIES)
    return tuple(sorted(found))


def crossed_ones(frame, changes):
    """Return the dict from the index of each LEAST CHANGE that CROSSES itself to those that it CROSSES."""
    lots = [lot_of(frame, one) for one in changes]
    met = [{at: True for at, other in enumerate(lots) if do_meet(lot, other)} for lot in lots]
    return {index: near for index, near in enumerate(met) if near}


def with_index(crossed, found, index):
    """Return the list of the FAMILIES of some first LEAST CHANGES and one more; found has those of the former."""
    near = crossed[index]
    fresh = []
    parted = {}
    for family in found:
        left = tuple([one for one in family if one in near])
        if len(left) == len(family):
            fresh.append(family + (index,))
        else:
            fresh.append(family)
            parted[left] = True
    ahead = [one for one in near if one < index and one in crossed]
    return fresh + [left + (index,) for left in parted if not has_room(crossed, left, ahead)]


def has_room(crossed, family, others):
    """Tell whether one of the others CROSSES all of a FAMILY, and isn't of it."""
    return any([one not in family and all([one in crossed[other] for other in family]) for one in others])


def outside(frame, changes, family):
    """Return the OUTSIDE of a FAMILY."""
    return space_of([change for index, change in enumerate(changes) if index not in family], len(frame[0]))
