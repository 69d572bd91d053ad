"""LINKINGS: which groups have to be joined so that a BOOK survives, or a RULE holds."""

from itertools import combinations

from heldthrough.books import in_frame
from heldthrough.crossing import is_part
from heldthrough.breaks import Bounds, Breaks, history_that_breaks
from heldthrough.drift import lot_with
from heldthrough.errors import TooMany
from heldthrough.forms import is_lot
from heldthrough.frames import added_places, linked, taken
from heldthrough.heldlimits import holds, survives
from heldthrough.limits import check_stand
from heldthrough.safe import few_outsides
from heldthrough.sharings import sharings

MOST_GROUPS = 5
MOST_ADDED = 4


def is_linking(frame, thing):
    """Tell whether a value is a LINKING of a FRAME."""
    if not isinstance(thing, tuple) or not all([is_lot(frame, lot) and len(lot) > 1 for lot in thing]):
        return False
    bound = [index for lot in thing for index in lot]
    # LOTS without a common group are unlike, so they ascend if they are sorted.
    return len(set(bound)) == len(bound) and list(thing) == sorted(thing)


def is_finer(one, other):
    """Tell whether the one LINKING is FINER than the other."""
    return one != other and all([any([is_part(lot, wide) for wide in other]) for lot in one])


def joined(book, linking):
    """Return the BOOK JOINED by a LINKING."""
    return in_frame(book, linked(book[0], linking))


def finer_ones(linking):
    """Return the ascending tuple of the LINKINGS that come of one if one of its LOTS is parted into two."""
    found = []
    for at, lot in enumerate(linking):
        for kinds in sharings(len(lot), 2):
            parts = [tuple([lot[place] for place in lot_with(kinds, kind)]) for kind in range(2)]
            if parts[1] != ():
                found.append(linking_of([*linking[:at], *parts, *linking[at + 1:]]))
    return tuple(sorted(found))


def linking_of(lots):
    """Return the LINKING of those LOTS that have more than one group."""
    return tuple(sorted([lot for lot in lots if len(lot) > 1]))


def linkings(book):
    """Return the ascending tuple of all LINKINGS by which JOINED the BOOK survives, but by no FINER one."""
    return least_linkings(book, survives)


def rule_linkings(book, index):
    """Return the ascending tuple of all LINKINGS by which JOINED a RULE of the BOOK holds, but by no FINER one."""
    return least_linkings(book, lambda other: does_hold(other, index))


def does_hold(book, index):
    """Tell whether a RULE of a BOOK holds."""
    few_outsides(book)
    groups = tuple(range(len(book[0][1])))
    # What goes beyond the bound over one base is found sooner than the greatest VALUE.
    if Breaks(book[0], Bounds(book)).over_bound(groups, [(), ()], [index]) is not None:
        return False
    return holds(book, book[1][index])


def least_linkings(book, is_right):
    """Return the ascending tuple of all LINKINGS by which JOINED a BOOK is right, but by no FINER one."""
    many = len(book[0][1])
    if many > MOST_GROUPS:
        raise TooMany(MOST_GROUPS)
    check_stand(book)
    found = []
    for linking in all_linkings(many):
        if not any([is_finer(other, linking) for other in found]) and is_right(joined(book, linking)):
            found.append(linking)
    return tuple(sorted(found))


def all_linkings(many):
    """Return the list of all LINKINGS of so many groups, each one ahead of all than which it is FINER."""
    found = []
    for kinds in sharings(many, many):
        lots = [lot_with(kinds, kind) for kind in range(max(kinds, default=-1) + 1)]
        # The FINER one has more LOTS, those of one group counted as well.
        found.append((-len(lots), linking_of(lots)))
    return [linking for _, linking in sorted(found)]


def is_least_linking(book, linking):
    """Tell whether a BOOK survives if it is JOINED by a LINKING, but by no FINER one."""
    check_stand(book)
    if not survives(joined(book, linking)):
        return False
    for one in finer_ones(linking):
        if survives(joined(book, one)):
            return False
    return True


def finer_breaks(book, linking):
    """Return the tuple of the HISTORIES that break a BOOK JOINED by each of finer_ones, None where it survives."""
    check_stand(book)
    bounds = Bounds(book)
    return tuple([breaking_by(bounds, joined(book, one)) for one in finer_ones(linking)])


def breaking_by(bounds, book):
    """Return what breaking does, of a BOOK with the RULES that Bounds are told of."""
    few_outsides(book)
    return history_that_breaks(book, Breaks(book[0], bounds))


def takings(book):
    """Return the ascending tuple of the least tuples of PLACES of added cells by whose taking a BOOK survives."""
    places = list(added_places(book[0]))
    if len(places) > MOST_ADDED:
        raise TooMany(MOST_ADDED)
    check_stand(book)
    found = []
    for size in range(len(places) + 1):
        for some in combinations(places, size):
            if not any([is_part(other, some) for other in found]) and survives(with_taken(book, some)):
                found.append(some)
    return tuple(sorted(found))


def with_taken(book, places):
    """Return a BOOK with added cells taken, and then all groups joined to one."""
    frame = book[0]
    for place in places:
        frame = taken(frame, frame[0][place])
    groups = tuple(range(len(frame[1])))
    return in_frame(book, linked(frame, (groups,)) if groups else frame)
