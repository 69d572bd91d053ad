"""MERGES of STANDS, cell by cell."""

from heldthrough.errors import Clash
from heldthrough.fractions import less, minus, plus
from heldthrough.frames import added_places, places_of, touched


def change(one, other):
    """Return the CHANGE from one STAND to another one."""
    return less(other, one)


def clashes(frame, base, mine, yours):
    """Return the LOT of the groups that CLASH."""
    by_mine, by_yours = touched(frame, change(base, mine)), touched(frame, change(base, yours))
    both = [index for index in by_mine if index in by_yours]
    return tuple([index for index in both if frame[3] == "strict" or not are_alike(frame, index, mine, yours)])


def are_alike(frame, index, mine, yours):
    """Tell whether two STANDS are equal in all cells of a group."""
    return all([mine[place] == yours[place] for place in places_of(frame, (index,))])


def merged(frame, base, mine, yours):
    """Return the MERGE of two STANDS over a base."""
    groups = clashes(frame, base, mine, yours)
    if groups != ():
        raise Clash(groups)
    stand = list(yours)
    for place in places_of(frame, touched(frame, change(base, mine))):
        stand[place] = mine[place]
    for place in added_places(frame):
        stand[place] = minus(plus(mine[place], yours[place]), base[place])
    return tuple(stand)


def picked(frame, onto, begin, end):
    """Return the STAND of a pick: what led from begin to end is done onto a STAND."""
    return merged(frame, begin, end, onto)


def reverted(frame, onto, begin, end):
    """Return the STAND of a revert: what led from begin to end is undone on a STAND."""
    return merged(frame, end, begin, onto)
