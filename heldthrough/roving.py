"""Moves that lead on from a STAND that was come to, though it is not GOOD: each looks at some groups alone.

A LOT fits a STAND if some INNER STAND has in its groups what the STAND has. A change that TOUCHES only
these groups, and leads from such a GOOD STAND somewhere, may be merged with what the STAND is.
"""

from heldthrough.crossing import is_part, lot_of
from heldthrough.directions import directions, exact_rules
from heldthrough.drift import Sides, common_part, drift, pair_with
from heldthrough.fractions import added, multiple, over, vector_of, whole
from heldthrough.frames import added_places, places_of, touched
from heldthrough.held import Slope
from heldthrough.leastchanges import least_changes
from heldthrough.programs import solved
from heldthrough.spaces import cleared, first_place, has, primitive, seen_at, space_of, units, within
from heldthrough.strides import free_places
from heldthrough.trees import fork, led_tree, leaf, stacked


class Move:
    """Changes that TOUCH the groups of a LOT alone: all in a SPACE, or, if a tree tells how it comes about, one."""

    def __init__(self, lot, space, tree):
        self.lot = lot
        self.space = space
        self.tree = tree

    def tree_for(self, vector):
        """Return the tree of changes that comes to a VECTOR in the SPACE."""
        if self.tree is None:
            return leaf(vector)
        place = first_place(self.space[0])
        share = over(vector[place], whole(self.space[0][place]))
        return led_tree(self.tree, multiple(whole(0), vector), share)


class Ground:
    """What Moves there are for a BOOK.

    Rows and trees stand as tuples (row, tree), a tree of changes that comes to the row. Those that are known
    span the DRIFT, the ones of the DIRECTIONS first; those that are shared are COMMON PARTS.
    """

    def __init__(self, book):
        self.source = book
        self.frame = book[0]
        self.many = len(book[0][0])
        self.flat = directions(book)
        self.wide = drift(book)
        self.exact = exact_rules(book)
        self.changes = least_changes(self.flat, self.many)
        self.lifts = self.within_lot(self.wide, ())
        self.known = [(row, leaf(vector_of(row))) for row in self.flat]
        self.shared = []
        while len(self.known) < len(self.wide):
            self.put_common_parts()

    def put_common_parts(self):
        """Put the COMMON PARTS of what is known to what is shared, and to what is known where they are new."""
        spanned = self.spanned(self.known)
        ahead = list(self.known)
        for row, pair in shared_pairs(self.frame, self.many, spanned):
            self.shared.append((row, shared_tree(ahead, pair, row)))
            if not has(spanned, vector_of(row)):
                self.known.append(self.shared[-1])
                spanned = self.spanned(self.known)

    def spanned(self, told):
        """Return the SPACE that rows span which stand with trees."""
        return space_of([row for row, _ in told], self.many)

    def within_lot(self, space, lot):
        """Return the SPACE of the VECTORS in a SPACE that TOUCH only groups of a LOT."""
        return within(space, tuple(sorted(places_of(self.frame, lot) + added_places(self.frame))), self.many)

    def does_fit(self, goal, lot):
        """Tell whether a LOT fits a STAND, and GOOD STANDS can differ in its groups by all that the DRIFT has there."""
        places = places_of(self.frame, lot)
        if len(seen_at(self.wide, places, self.many)) > len(seen_at(self.flat, places, self.many)):
            return False
        free = units(free_places(self.frame, lot), self.many)
        return Slope(self.source, free).depth(goal, self.exact) > 0

    def fitting_lots(self, goal):
        """Return the list of the greatest LOTS that fit a STAND."""
        found, left = [], [tuple(range(len(self.frame[1])))]
        while left:
            lower = []
            for lot in left:
                if any([is_part(lot, other) for other in found]):
                    continue
                if self.does_fit(goal, lot):
                    found.append(lot)
                else:
                    lower = lower + [lot[:at] + lot[at + 1:] for at in range(len(lot))]
            left = sorted(set(lower))
        return found

    def moves(self, goal):
        """Return the list of the Moves that can end at a STAND.

        First stand those between GOOD STANDS, by the greatest LOTS, then by the least, and behind them those by trees.
        """
        lots = self.fitting_lots(goal)
        least = sorted(set([lot_of(self.frame, change) for change in self.changes]))
        small = [lot for lot in least if lot not in lots and any([is_part(lot, other) for other in lots])]
        found = [Move(lot, self.within_lot(self.flat, lot), None) for lot in lots + small if lot != ()]
        found = [move for move in found if move.space != ()]
        rows = [(row, None) for lot in lots for row in self.within_lot(self.wide, lot)]
        space = space_of([row for move in found for row in move.space], self.many)
        for row, tree in self.shared + rows:
            vector = vector_of(row)
            lot = touched(self.frame, vector)
            if not has(space, vector) and self.does_fit(goal, lot):
                space = space_of([*space, row], self.many)
                found.append(Move(lot, (row,), tree_in(self.known, vector) if tree is None else tree))
        return found


def shared_pairs(frame, many, space):
    """Return the list of tuples (row, pair): COMMON PARTS of VECTORS in a SPACE, but not in it, and what they are of.

    Those that TOUCH fewer groups stand ahead.
    """
    found = {}
    for change in least_changes(space, many):
        one = vector_of(change)
        common = common_part(frame, one, one)
        if not has(space, common):
            found[primitive(cleared(common))] = (one, one, common)
    sides = Sides(frame, space)
    # Partings are told by the parts of all VECTORS in the groups, which have to be in the SPACE ahead.
    for lots in sides.partings() if found == {} else []:
        for row in sides.common(lots):
            if row not in found and not has(space, vector_of(row)):
                found[row] = pair_with(sides, lots, row)
    return sorted(list(found.items()), key=lambda told: len(touched(frame, vector_of(told[0]))))


def shares_in(rows, vector):
    """Return the tuple of FRACTIONS by which WHOLE VECTORS, at least one, add up to a VECTOR; there are some."""
    *numbers, den = cleared((*vector, (1, 1)))
    lines = [("=", tuple([row[place] for row in rows]), number) for place, number in enumerate(numbers)]
    return multiple((1, den), solved(tuple(lines), (0,) * len(rows))[2])


def tree_in(known, vector):
    """Return the tree that comes to a VECTOR by known ones, which stand as in a Ground."""
    shares = shares_in([row for row, _ in known], vector)
    none = multiple(whole(0), vector)
    start, tree = none, None
    for share, (_, one) in zip(shares, known):
        if one[0] == "at":
            start = added(start, multiple(share, one[1]))
        elif share != whole(0):
            other = led_tree(one, none, share)
            tree = other if tree is None else stacked(tree, other)
    return leaf(start) if tree is None else led_tree(tree, start, whole(1))


def shared_tree(known, pair, row):
    """Return the tree that comes to a row, which some multiple of the COMMON PART of a pair is."""
    one, other, common = pair
    place = first_place(row)
    tree = fork(tree_in(known, added(one, other)), tree_in(known, other), tree_in(known, one))
    return led_tree(tree, multiple(whole(0), one), over(whole(row[place]), common[place]))
