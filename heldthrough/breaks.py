"""What two branches over a base can break when they are merged; no FAMILIES are looked at for it.

What breaks a BOOK is told as a tuple: ("flat", one, other) of two changes that AGREE, and whose COMMON PART
is not in the DIRECTIONS; or ("bound", one, other, index, stand) of two changes that raise the reading of a
RULE of sign "<=", and TOUCH no common group, and a GOOD STAND that keeps this RULE with its bound, and all
others with less, as far as they can be. All changes are WHOLE VECTORS in the DIRECTIONS.
"""

from heldthrough.books import value
from heldthrough.directions import directions, exact_rules, inner
from heldthrough.drift import Sides, both_lots, common_part, led_on, one_merge, room
from heldthrough.fractions import added, multiple, over, sign_of, vector_of, whole
from heldthrough.frames import added_places, places_of
from heldthrough.held import Slope
from heldthrough.programs import lowered, solved
from heldthrough.spaces import cleared, has, sum_of_products, within


class Bounds:
    """What is asked for of the RULES of a BOOK, whatever its groups are: the DIRECTIONS, and where bounds are met."""

    def __init__(self, book):
        self.source = book
        self.flat = directions(book)
        self.met = {}

    def stand_on(self, index):
        """Return a GOOD STAND that keeps a RULE with its bound, all others with less, as far as can be; or None."""
        if index not in self.met:
            self.met[index] = stand_on(self.source, index)
        return self.met[index]


class Breaks:
    """What is asked for of a FRAME and of Bounds as one looks for what breaks a BOOK of both."""

    def __init__(self, frame, bounds):
        self.frame = frame
        self.bounds = bounds
        self.flat = bounds.flat
        self.many = len(frame[0])
        self.sides = Sides(frame, self.flat)
        self.spaces = {}

    def within_lot(self, lot):
        """Return the SPACE of the DIRECTIONS that TOUCH only groups of a LOT."""
        if lot not in self.spaces:
            places = tuple(sorted(places_of(self.frame, lot) + added_places(self.frame)))
            self.spaces[lot] = within(self.flat, places, self.many)
        return self.spaces[lot]

    def between(self, one, other):
        """Return what breaks the BOOK if the one branch KEEPS WITHIN a LOT, the other one within another; or None."""
        both = tuple([index for index in one if index in other])
        lots = [tuple([index for index in lot if index not in both]) for lot in (one, other)]
        found = None if self.frame[3] == "strict" else self.off_flat(both, lots)
        indexes = list(range(len(self.bounds.source[1])))
        return self.over_bound(both, lots, indexes) if found is None else found

    def anywhere(self):
        """Return what breaks the BOOK, None if it survives."""
        groups = tuple(range(len(self.frame[1])))
        return self.between(groups, groups)

    def off_flat(self, both, lots):
        """Return what breaks an equation of all GOOD STANDS; None if nothing does.

        Both branches may TOUCH groups of a LOT, and each one those of one of the other lots.
        """
        for row in self.within_lot(both):
            vector = vector_of(row)
            if not has(self.flat, common_part(self.frame, vector, vector)):
                return ("flat", row, row)
        for parting in partings(both, lots):
            for row in self.sides.common(parting):
                if not has(self.flat, vector_of(row)):
                    return self.flat_pair(parting, row)
        return None

    def flat_pair(self, parting, common):
        """Return two changes with this COMMON PART, or a multiple of it, for three LOTS."""
        places = places_of(self.frame, parting[0])
        one, other = [led_on(self.within_lot(both_lots(parting[0], lot)), places, common) for lot in parting[1:]]
        joint = cleared(one + other)
        return ("flat", joint[:self.many], joint[self.many:])

    def over_bound(self, both, lots, indexes):
        """Return what breaks a RULE of sign "<=" of some indexes; None if nothing does. LOTS are those of off_flat."""
        for part in parts_of_lot(both):
            left = tuple([index for index in both if index not in part])
            spaces = [self.within_lot(both_lots(lot, own)) for lot, own in zip(lots, (part, left))]
            for index in indexes:
                rises = [risen(self.bounds.source[1][index][1], space) for space in spaces]
                if None not in rises and self.bounds.stand_on(index) is not None:
                    return ("bound", rises[0], rises[1], index, self.bounds.stand_on(index))
        return None


def risen(reading, space):
    """Return a member of a SPACE, or its opposite, at which a READING has a VALUE above 0; None if there is none."""
    for row in space:
        rise = sum_of_products(reading, row)
        if rise != 0:
            return row if rise > 0 else tuple([-number for number in row])
    return None


def parts_of_lot(lot):
    """Return the list of all LOTS of groups of a LOT."""
    found = [()]
    for index in lot:
        found = found + [part + (index,) for part in found]
    return found


def partings(both, lots):
    """Return the list of tuples of three LOTS, none of them (): they part both, the last two have more groups."""
    found = []
    for first in parts_of_lot(both):
        left = tuple([index for index in both if index not in first])
        for second in parts_of_lot(left):
            third = tuple([index for index in left if index not in second])
            found.append((first, both_lots(lots[0], second), both_lots(lots[1], third)))
    return [parting for parting in found if () not in parting]


def history_that_breaks(book, breaks):
    """Return a HISTORY of four DEEDS whose merge breaks a BOOK, None if none does."""
    found = breaks.anywhere()
    return None if found is None else history_of(book, found)


def history_of(book, found):
    """Return the HISTORY of four DEEDS whose merge breaks a BOOK, as it was found."""
    if found[0] == "bound":
        reading = book[1][found[3]][1]
        return pushed(book, found[4], [unit_rise(reading, one) for one in found[1:3]])
    base = inner(book)
    changes = [vector_of(one) for one in found[1:]]
    share = room(book, base, changes)
    mine, yours = [added(base, multiple(share, one)) for one in changes]
    return one_merge(base, mine, yours)


def stand_on(book, index):
    """Return a GOOD STAND that keeps a RULE with its bound, all others with less, but those that can't; or None."""
    along, exact = Slope(book, directions(book)).numbers, exact_rules(book)
    rows = []
    for other, (sign, reading, bound) in enumerate(book[1]):
        if other == index or other in exact:
            rows.append(("=", reading + (0,), bound))
        else:
            rows.append((sign, reading + (0 if are_twins(along[other], along[index]) else 1,), bound))
    goal = (0,) * len(book[0][0]) + (1,)
    found = solved((*rows, ("<=", goal, 1)), goal)
    return found[2][:-1] if found[0] == "at" and sign_of(found[1]) > 0 else None


def are_twins(one, other):
    """Tell whether WHOLE VECTORS, the latter not 0, differ by a factor above 0: such readings rise and fall as one."""
    return any([number != 0 for number in one]) and lowered(list(one)) == lowered(list(other))


def unit_rise(reading, change):
    """Return the multiple of a WHOLE VECTOR at which a READING has the VALUE 1."""
    vector = vector_of(change)
    return multiple(over(whole(1), value(reading, vector)), vector)


def pushed(book, stand, rises):
    """Return a HISTORY in which two changes, each of which rises by 1, are merged beyond a bound that a STAND has.

    The base is as far ahead of the bound that either change alone stays ahead of it.
    """
    back = multiple((-2, 3), added(rises[0], rises[1]))
    changes = [back, added(back, rises[0]), added(back, rises[1])]
    share = room(book, stand, changes)
    base, mine, yours = [added(stand, multiple(share, one)) for one in changes]
    return one_merge(base, mine, yours)
