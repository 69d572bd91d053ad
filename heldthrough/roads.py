"""HISTORIES that come to a STAND, or beyond a bound."""

from heldthrough.books import is_good, value
from heldthrough.directions import directions, inner
from heldthrough.errors import NotInside
from heldthrough.forks import forked
from heldthrough.fractions import (added, floor_of, fraction, is_at_most, is_less, less, minus, multiple, over, plus,
                                   whole)
from heldthrough.held import place
from heldthrough.heldlimits import greatest_held
from heldthrough.limits import check_stand, greatest
from heldthrough.onemerge import come_to, far_branches
from heldthrough.routes import route
from heldthrough.strides import steps_to
from heldthrough.trees import Story

MOST_BRANCHES = 6
MOST_GROUPS = 5


def road(book, stand):
    """Return a HISTORY of a first one, edits and merges, whose last VERSION has this STAND."""
    check_stand(book)
    if is_good(book, stand):
        return (("first", stand),)
    history = forked_road(book, stand)
    if history is not None:
        return history
    if place(book, stand) != "inside":
        raise NotInside()
    return long_road(book, stand)


def long_road(book, stand):
    """Return a HISTORY that comes to a STAND that is INSIDE, by STEPS if each cell can be changed in its group."""
    if book[0][2] == () and len(directions(book)) == len(book[0][0]):
        return steps_to(book, stand)
    return route(book, stand)


def forked_road(book, stand):
    """Return a HISTORY of the fewest branches over one base that come to a STAND, None if there is none."""
    found = forked(book, stand, MOST_BRANCHES if len(book[0][1]) <= MOST_GROUPS else 2)
    return None if found is None else branched(found[0], found[1])


def branched(base, stands):
    """Return the HISTORY of a base, of branches over it, and of their merges."""
    story = Story()
    first = story.put_stand(None, base)
    here, *later = [story.put_stand(first, stand) for stand in stands]
    for version in later:
        here = story.put(("merge", here, version, first))
    return story.history()


def beyond(book, reading, bound):
    """Return a HISTORY at whose last VERSION a READING has a VALUE above bound, None if there is none."""
    most = greatest_held(book, reading)
    if most[0] == "at" and is_at_most(most[1], bound):
        return None
    found = greatest(book, reading)
    if found[0] == "endless" or is_less(bound, found[1]):
        return (("first", stand_beyond(reading, bound, found)),)
    for k in range(2, 4 if len(book[0][1]) <= MOST_GROUPS else 3):
        branches = far_branches(book, reading, k, bound)
        if branches[0] == "endless":
            return branched_beyond(reading, bound, branches)
        if is_less(bound, branches[1]):
            return branched(branches[2], branches[3])
    return long_road(book, inside_beyond(book, reading, bound, stand_beyond(reading, bound, most)))


def stand_beyond(reading, bound, found):
    """Return a STAND at which a READING has a VALUE above bound, as greatest or greatest_held have found it."""
    if found[0] == "at":
        return found[2]
    return added(found[1], multiple(times_beyond(reading, bound, found[1], found[2]), found[2]))


def times_beyond(reading, bound, stand, way):
    """Return an integer, as a FRACTION, by which multiplied a way leads from a STAND to a VALUE above bound."""
    left = minus(bound, value(reading, stand))
    times = floor_of(over(left, value(reading, way))) + 1
    return whole(max(times, 0))


def branched_beyond(reading, bound, branches):
    """Return the HISTORY of branches that come to a VALUE above bound, as they come to any."""
    base, stands, way, ways = branches[1:]
    share = times_beyond(reading, bound, come_to(base, stands), come_to(way, ways))
    later = [added(stand, multiple(share, one)) for stand, one in zip(stands, ways)]
    return branched(added(base, multiple(share, way)), later)


def inside_beyond(book, reading, bound, stand):
    """Return a STAND that is INSIDE at which a READING has a VALUE above bound, as it has at a STAND that is HELD.

    It is on the line from an INNER STAND, at which it has not, and near to where it becomes so.
    """
    begin = inner(book)
    way = less(stand, begin)
    least = over(minus(bound, value(reading, begin)), value(reading, way))
    middle = over(plus(least, whole(1)), whole(2))
    den = 1
    while True:
        share = fraction(floor_of(multiple(whole(den), (least,))[0]) + 1, den)
        if is_at_most(share, middle):
            return added(begin, multiple(share, way))
        den = 2 * den
