"""How far branches over one base can come when they are merged, and how one merge breaks a BOOK."""

from heldthrough.books import value
from heldthrough.directions import directions, exact_rules
from heldthrough.drift import off_flat, one_merge, room
from heldthrough.errors import TooMany
from heldthrough.fractions import added, is_less, less, multiple, over, sign_of, vector_of, whole
from heldthrough.frames import added_places, places_of
from heldthrough.heldlimits import survives
from heldthrough.held import Slope
from heldthrough.limits import check_stand
from heldthrough.programs import lowered, solved
from heldthrough.safe import changes_of, pair_apart
from heldthrough.sharings import sharings

MOST_SHARINGS = 300


def come_to(base, stands):
    """Return the STAND that branches over a base come to."""
    total = base
    for stand in stands:
        total = added(total, less(stand, base))
    return total


class Branches:
    """The rows of branches over a base, when it is told which branch may touch each group.

    The unknowns are the cells of the base, and behind them those that each branch may
    change; places has for each STAND, the base ahead, the unknown at each cell.
    """

    def __init__(self, book, k, shared):
        frame = book[0]
        self.source = book
        self.cells = list(range(len(frame[0])))
        self.many = len(frame[0])
        self.places = [self.cells]
        for branch in range(k):
            lot = tuple([index for index, owner in enumerate(shared) if owner == branch])
            self.places.append(self.with_own(places_of(frame, lot) + added_places(frame)))

    def with_own(self, own):
        """Return the list of unknowns for a branch that may change cells at these places."""
        fresh = list(self.cells)
        for place in own:
            fresh[place] = self.many
            self.many += 1
        return fresh

    def spread(self, reading, places):
        """Return a READING of one STAND as numbers for all unknowns."""
        numbers = [0] * self.many
        for number, place in zip(reading, places):
            numbers[place] = number
        return numbers

    def good_rows(self):
        """Return the tuple of the rows by which all STANDS are GOOD."""
        # A branch that can't differ from the base needs no rows of its own.
        unlike = self.places[:1] + [places for places in self.places[1:] if places != self.places[0]]
        return tuple([(sign, tuple(self.spread(reading, places)), bound)
                      for places in unlike for sign, reading, bound in self.source[1]])

    def goal(self, reading):
        """Return the goal that has the VALUE of a READING at what the branches come to."""
        base = self.spread(reading, self.places[0])
        total = base
        for places in self.places[1:]:
            branch = self.spread(reading, places)
            total = [one + mine - old for one, mine, old in zip(total, branch, base)]
        return tuple(total)

    def stands(self, point):
        """Return the tuple of the base and of the tuple of all branches at a POINT, or on a WAY."""
        base, *stands = [tuple([point[place] for place in places]) for places in self.places]
        return (base, tuple(stands))


def farthest(book, reading, k):
    """Return k branches that come to the greatest VALUE of a READING, or how they come to any."""
    check_sharings(book[0], k)
    check_stand(book)
    best = None
    for shared in sharings(len(book[0][1]), k):
        branches = Branches(book, k, shared)
        found = solved(branches.good_rows(), branches.goal(reading))
        if found[0] == "endless":
            return ("endless",) + branches.stands(found[1]) + branches.stands(found[2])
        if best is None or is_less(best[1], found[1]):
            best = ("at", found[1]) + branches.stands(found[2])
    return best


def check_sharings(frame, k):
    """Raise TooMany if there are too many ways to share the groups out to k branches."""
    many = 1
    for _ in frame[1]:
        many = many * k
    if many > MOST_SHARINGS:
        raise TooMany(MOST_SHARINGS)


def breaking(book):
    """Return a HISTORY of four DEEDS whose merge is not GOOD, None if the BOOK survives."""
    if survives(book):
        return None
    history = off_flat(book)
    return over_limit(book) if history is None else history


def over_limit(book):
    """Return a HISTORY whose merge goes beyond a bound, of a BOOK that doesn't survive, but keeps its equations."""
    changes = changes_of(book)
    for index, rule in enumerate(book[1]):
        pair = pair_apart(book[0], changes, rule[1])
        stand = None if pair is None else stand_on(book, index)
        if stand is not None:
            return pushed(book, stand, [unit_rise(rule[1], one) for one in pair])
    return None


def stand_on(book, index):
    """Return a GOOD STAND that keeps a RULE with its bound, all others with less, but those that can't; or None."""
    along, exact = Slope(book, directions(book)).numbers, exact_rules(book)
    rows = []
    for other, (sign, reading, bound) in enumerate(book[1]):
        if other == index or other in exact:
            rows.append(("=", reading + (0,), bound))
        else:
            rows.append((sign, reading + (0 if are_twins(along[other], along[index]) else 1,), bound))
    goal = (0,) * len(book[0][0]) + (1,)
    found = solved((*rows, ("<=", goal, 1)), goal)
    return found[2][:-1] if found[0] == "at" and sign_of(found[1]) > 0 else None


def are_twins(one, other):
    """Tell whether WHOLE VECTORS, the latter not 0, differ by a factor above 0: such readings rise and fall as one."""
    return any([number != 0 for number in one]) and lowered(list(one)) == lowered(list(other))


def unit_rise(reading, change):
    """Return the multiple of a WHOLE VECTOR at which a READING has the VALUE 1."""
    vector = vector_of(change)
    return multiple(over(whole(1), value(reading, vector)), vector)


def pushed(book, stand, rises):
    """Return a HISTORY in which two changes, each of which rises by 1, are merged beyond a bound that a STAND has.

    The base is as far ahead of the bound that either change alone stays ahead of it.
    """
    back = multiple((-2, 3), added(rises[0], rises[1]))
    changes = [back, added(back, rises[0]), added(back, rises[1])]
    share = room(book, stand, changes)
    base, mine, yours = [added(stand, multiple(share, one)) for one in changes]
    return one_merge(base, mine, yours)
