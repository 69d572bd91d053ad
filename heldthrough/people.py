"""PEOPLE: what persons who may change certain cells can bring about, all of them together."""

from heldthrough.books import value
from heldthrough.directions import directions, is_inner
from heldthrough.drift import closing_steps
from heldthrough.errors import NotInside
from heldthrough.forms import is_ascending, is_integer
from heldthrough.frames import moved
from heldthrough.heldlimits import holds
from heldthrough.histories import stands_of
from heldthrough.limits import check_stand
from heldthrough.merges import change
from heldthrough.spaces import cut, joined, sum_of_products, units, upright, within


def is_people(frame, thing):
    """Tell whether a value is PEOPLE of a FRAME."""
    return isinstance(thing, tuple) and all([are_places(len(frame[0]), places) for places in thing])


def are_places(many, thing):
    """Tell whether a value is an ascending tuple of PLACES, of so many cells."""
    if not isinstance(thing, tuple) or not all([is_integer(place) and 0 <= place < many for place in thing]):
        return False
    return is_ascending(thing)


def is_of_people(book, people, history):
    """Tell whether a HISTORY is one OF PEOPLE."""
    stands = stands_of(book, history)
    for deed, stand in zip(history, stands):
        if deed[0] == "settle":
            return False
        if deed[0] == "edit" and not is_by_some(people, change(stands[deed[1]], stand)):
            return False
    return True


def is_by_some(people, vector):
    """Tell whether some one person may change all cells that a VECTOR MOVES."""
    cells = moved(vector)
    return any([all([place in places for place in cells]) for places in people])


def reach(book, people):
    """Return the least SPACE that persons can't lead out of, who go from where merges lead to GOOD STANDS."""
    return reach_in(book[0], directions(book), people)


def reach_in(frame, flat, people):
    """Return what reach does; flat is the DIRECTIONS of the BOOK."""
    many, space, ahead = len(frame[0]), (), None
    while space != ahead:
        ahead = space
        wide = closing_steps(frame, space)[-1]
        for places in people:
            space = joined(space, cut(flat, joined(wide, units(places, many), many), many), many)
    return space


def book_of(book, stand, people):
    """Return the BOOK with the equations that all VERSIONS keep to which PEOPLE come from an INNER STAND."""
    check_inner(book, stand)
    return bound_book(book, stand, reach(book, people))


def check_inner(book, stand):
    """Raise NoStand if a BOOK has no GOOD STAND, NotInside if a STAND is not INNER."""
    check_stand(book)
    if not is_inner(book, stand):
        raise NotInside()


def bound_book(book, stand, space):
    """Return the BOOK with equations more, by which a STAND can be led by VECTORS in a SPACE alone."""
    frame, rules = book
    return (frame, rules + tuple([equation_at(member, stand) for member in upright(space, len(frame[0]))]))


def equation_at(reading, stand):
    """Return the RULE that a READING has the VALUE that it has at a STAND, both multiplied till the bound is whole."""
    num, den = value(reading, stand)
    return ("=", tuple([number * den for number in reading]), num)


def who_moves(book, people, reading):
    """Return the ascending tuple of the indexes of the persons who can change the VALUE of a READING alone."""
    flat, many = directions(book), len(book[0][0])
    own = [within(flat, places, many) for places in people]
    return tuple([index for index, space in enumerate(own) if any([sum_of_products(reading, row) for row in space])])


def new_rights(book, stand, people, index):
    """Return the ascending tuple of tuples (person, place): a right more, by which a RULE would hold no longer."""
    check_inner(book, stand)
    flat, rule = directions(book), book[1][index]
    space = reach_in(book[0], flat, people)
    if not holds(bound_book(book, stand, space), rule):
        return ()
    # Most rights lead to nothing new, or to the same as others do.
    known, found = {space: True}, []
    for person, places in enumerate(people):
        for place in range(len(stand)):
            if place in places:
                continue
            wider = (*people[:person], tuple(sorted((*places, place))), *people[person + 1:])
            space = reach_in(book[0], flat, wider)
            if space not in known:
                known[space] = holds(bound_book(book, stand, space), rule)
            if not known[space]:
                found.append((person, place))
    return tuple(found)
