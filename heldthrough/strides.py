"""How far STANDS can be led at once, all of them staying GOOD, and the STEPS that come of it."""

from heldthrough.directions import inner
from heldthrough.errors import TooMany
from heldthrough.fractions import added, fraction, less, minus, multiple, nought, whole
from heldthrough.frames import moved, part, places_of
from heldthrough.programs import solved
from heldthrough.spaces import cleared, sum_of_products
from heldthrough.trees import Story, leaf

MOST_STEPS = 300
MOST_DEEDS = 4000


def stride(book, free, ends, most):
    """Return a tuple (share, vector): the greatest share, at most the given one, and a VECTOR; None if there is none.

    The VECTOR MOVES only cells at the free places. Each of the ends is a tuple (stand, way): the STAND,
    the VECTOR, and the share of the way make a GOOD STAND together.
    """
    *joint, den = cleared(tuple([number for end in ends for one in end for number in one]) + ((1, 1),))
    width = len(book[0][0])
    rows = [("<=", (0,) * len(free) + (most[1],), most[0])]
    for begin in range(0, len(joint), 2 * width):
        stand, way = joint[begin:begin + width], joint[begin + width:begin + 2 * width]
        for sign, reading, bound in book[1]:
            numbers = tuple([reading[place] for place in free]) + (sum_of_products(reading, way),)
            rows.append((sign, numbers, bound * den - sum_of_products(reading, stand)))
    found = solved(tuple(rows), (0,) * len(free) + (1,))
    if found[0] != "at":
        return None
    vector = list(nought(book[0]))
    for place, number in zip(free, found[2]):
        vector[place] = fraction(number[0], number[1] * den)
    return (found[1], tuple(vector))


def free_places(frame, lot):
    """Return the tuple of the PLACES of all cells that are not in the groups of a LOT."""
    own = places_of(frame, lot)
    return tuple([place for place in range(len(frame[0])) if place not in own])


def steps_to(book, stand):
    """Return the HISTORY that goes to a STAND by STEPS, group by group."""
    begin, links = inner(book), []
    for index in range(len(book[0][1])):
        put_steps(book, index, begin, stand, links)
    story = Story()
    story.put_chain(None, leaf(begin), links)
    return story.history()


def put_steps(book, index, begin, end, links):
    """Put the links of the STEPS in one group, from the one STAND to the other, to a list."""
    frame = book[0]
    places, free = places_of(frame, (index,)), free_places(frame, (index,))
    here = part(frame, begin, places)
    way = less(part(frame, end, places), here)
    left = whole(1 if moved(way) else 0)
    while left != whole(0):
        if len(links) == MOST_STEPS:
            raise TooMany(MOST_DEEDS)
        share, rest = stride(book, free, [(here, nought(frame)), (here, way)], left)
        there = added(here, multiple(share, way))
        links.append((leaf(added(here, rest)), leaf(added(there, rest))))
        here, left = there, minus(left, share)
