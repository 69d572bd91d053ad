"""How far branches over one base can come when they are merged, and how one merge breaks a BOOK."""

from heldthrough.breaks import Bounds, Breaks, history_that_breaks
from heldthrough.errors import TooMany
from heldthrough.fractions import added, is_less, less
from heldthrough.frames import added_places, places_of
from heldthrough.limits import check_stand
from heldthrough.programs import solved
from heldthrough.safe import few_outsides
from heldthrough.sharings import sharings

MOST_SHARINGS = 300


def come_to(base, stands):
    """Return the STAND that branches over a base come to."""
    total = base
    for stand in stands:
        total = added(total, less(stand, base))
    return total


class Branches:
    """The rows of branches over a base, when it is told which branch may touch each group.

    The unknowns are the cells of the base, and behind them those that each branch may
    change; places has for each STAND, the base ahead, the unknown at each cell.
    """

    def __init__(self, book, k, shared):
        frame = book[0]
        self.source = book
        self.cells = list(range(len(frame[0])))
        self.many = len(frame[0])
        self.places = [self.cells]
        for branch in range(k):
            lot = tuple([index for index, owner in enumerate(shared) if owner == branch])
            self.places.append(self.with_own(places_of(frame, lot) + added_places(frame)))

    def with_own(self, own):
        """Return the list of unknowns for a branch that may change cells at these places."""
        fresh = list(self.cells)
        for place in own:
            fresh[place] = self.many
            self.many += 1
        return fresh

    def spread(self, reading, places):
        """Return a READING of one STAND as numbers for all unknowns."""
        numbers = [0] * self.many
        for number, place in zip(reading, places):
            numbers[place] = number
        return numbers

    def good_rows(self):
        """Return the tuple of the rows by which all STANDS are GOOD."""
        # A branch that can't differ from the base needs no rows of its own.
        unlike = self.places[:1] + [places for places in self.places[1:] if places != self.places[0]]
        return tuple([(sign, tuple(self.spread(reading, places)), bound)
                      for places in unlike for sign, reading, bound in self.source[1]])

    def goal(self, reading):
        """Return the goal that has the VALUE of a READING at what the branches come to."""
        base = self.spread(reading, self.places[0])
        total = base
        for places in self.places[1:]:
            branch = self.spread(reading, places)
            total = [one + mine - old for one, mine, old in zip(total, branch, base)]
        return tuple(total)

    def stands(self, point):
        """Return the tuple of the base and of the tuple of all branches at a POINT, or on a WAY."""
        base, *stands = [tuple([point[place] for place in places]) for places in self.places]
        return (base, tuple(stands))


def farthest(book, reading, k):
    """Return k branches that come to the greatest VALUE of a READING, or how they come to any."""
    check_sharings(book[0], k)
    check_stand(book)
    return far_branches(book, reading, k, None)


def far_branches(book, reading, k, enough):
    """Return what farthest does; if enough is a FRACTION, the first branches found that come to a VALUE above it."""
    best = None
    for shared in sharings(len(book[0][1]), k):
        branches = Branches(book, k, shared)
        found = solved(branches.good_rows(), branches.goal(reading))
        if found[0] == "endless":
            return ("endless",) + branches.stands(found[1]) + branches.stands(found[2])
        if best is None or is_less(best[1], found[1]):
            best = ("at", found[1]) + branches.stands(found[2])
        if enough is not None and is_less(enough, best[1]):
            break
    return best


def check_sharings(frame, k):
    """Raise TooMany if there are too many ways to share the groups out to k branches."""
    many = 1
    for _ in frame[1]:
        many = many * k
    if many > MOST_SHARINGS:
        raise TooMany(MOST_SHARINGS)


def breaking(book):
    """Return a HISTORY of four DEEDS whose merge is not GOOD, None if the BOOK survives."""
    # More FAMILIES than can be looked at are told of, though these are not asked for here.
    few_outsides(book)
    return history_that_breaks(book, Breaks(book[0], Bounds(book)))
