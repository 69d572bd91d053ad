"""Branches over one base that come to a given STAND."""

from heldthrough.drift import lot_with
from heldthrough.fractions import added, less, multiple
from heldthrough.frames import added_places, places_of
from heldthrough.held import Slope
from heldthrough.programs import solved
from heldthrough.sharings import sharings
from heldthrough.spaces import cleared, units
from heldthrough.strides import free_places


class Fork:
    """The rows of a base and of branches that come to a STAND, each of which may touch the groups of one LOT.

    In these groups a branch is as the STAND, in all others as the base. There may be idle branches more, which
    touch no group; they can all be alike. The unknowns are the cells of the base, and behind them the added cells
    of each branch but the last one, all multiplied by the den of the STAND; what lacks is left to the last one,
    or to all that are idle.
    """

    def __init__(self, book, stand, lots, idle):
        self.source = book
        self.end = stand
        *numbers, self.den = cleared((*stand, (1, 1)))
        self.numbers = numbers
        self.added = added_places(book[0])
        self.own = [places_of(book[0], lot) for lot in lots] + ([()] if idle else [])
        self.last = len(self.own) - 1
        self.weight = max(idle, 1)
        self.many = len(stand) + len(self.added) * self.last

    def unknown(self, branch, index):
        """Return the place among the unknowns of an added cell of a branch, which is not the last one."""
        return len(self.end) + len(self.added) * branch + index

    def good_rows(self):
        """Return the tuple of the rows by which all STANDS are GOOD."""
        extra = (0,) * (self.many - len(self.end))
        found = [(sign, reading + extra, bound * self.den) for sign, reading, bound in self.source[1]]
        for branch in range(self.last + 1):
            found = found + [self.row(branch, rule) for rule in self.source[1]]
        return tuple(found)

    def row(self, branch, rule):
        """Return the row by which a branch keeps a RULE; that of the last one is multiplied by its weight."""
        sign, reading, bound = rule
        weight = self.weight if branch == self.last else 1
        line, left = [0] * self.many, bound * self.den * weight
        for place, number in enumerate(reading):
            if place in self.own[branch]:
                left -= number * self.numbers[place] * weight
            elif place not in self.added:
                line[place] = number * weight
        for index, place in enumerate(self.added):
            if branch < self.last:
                line[self.unknown(branch, index)] = reading[place]
            else:
                left -= reading[place] * self.numbers[place]
                line[place] = reading[place] * (self.last + weight - 1)
                for other in range(self.last):
                    line[self.unknown(other, index)] = -reading[place]
        return (sign, tuple(line), left)

    def found(self):
        """Return the tuple of a base and of the tuple of the branches, None if there are none."""
        told = solved(self.good_rows(), (0,) * self.many)
        if told[0] == "none":
            return None
        point = multiple((1, self.den), told[2])
        base = point[:len(self.end)]
        stands = [self.branch(base, branch, point) for branch in range(self.last)]
        rest = less(self.end, base)
        for stand in stands:
            rest = less(rest, less(stand, base))
        last = added(base, multiple((1, self.weight), rest))
        return (base, tuple(stands + [last] * self.weight))

    def branch(self, base, branch, point):
        """Return a branch, which is not the last one, at a POINT."""
        own = self.own[branch]
        stand = [self.end[place] if place in own else number for place, number in enumerate(base)]
        for index, place in enumerate(self.added):
            stand[place] = point[self.unknown(branch, index)]
        return tuple(stand)


def forked(book, stand, most):
    """Return the base and the tuple of the fewest branches, at most so many, that come to a STAND, or None."""
    has_added, fits, left = book[0][2] != (), {}, []
    for kinds in sharings(len(book[0][1]), most):
        lots = [lot_with(kinds, kind) for kind in range(max(kinds, default=-1) + 1)]
        # What fewer branches come to, more do, too, if idle ones can add something.
        if all([does_fit(book, stand, lot, fits) for lot in lots]):
            if not has_added or Fork(book, stand, lots, most - len(lots)).found() is not None:
                left.append(lots)
    for k in range(2, most + 1):
        for lots in left:
            idle = k - len(lots)
            found = Fork(book, stand, lots, idle).found() if idle == 0 or (idle > 0 and has_added) else None
            if found is not None:
                return found
    return None


def does_fit(book, stand, lot, known):
    """Tell whether some GOOD STAND has in the groups of a LOT what a STAND has; what is known of LOTS is kept."""
    if lot not in known:
        free = units(free_places(book[0], lot), len(stand))
        known[lot] = Slope(book, free).led(stand)[0] == "held"
    return known[lot]
