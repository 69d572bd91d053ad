"""What changes that AGREE bring about, and the DRIFT of a BOOK."""

from heldthrough.books import value
from heldthrough.directions import directions, inner
from heldthrough.fractions import added, is_less, minus, multiple, over, sign_of, vector_of, whole
from heldthrough.frames import part, places_of, touched
from heldthrough.programs import solved
from heldthrough.sharings import sharings
from heldthrough.spaces import cleared, cut, has, joined, seen_at, within


def do_agree(frame, one, other):
    """Tell whether two VECTORS AGREE."""
    return part(frame, one, common_places(frame, one, other)) == part(frame, other, common_places(frame, one, other))


def common_places(frame, one, other):
    """Return the PLACES of the cells of the groups that two VECTORS both TOUCH."""
    lot = touched(frame, other)
    return places_of(frame, tuple([index for index in touched(frame, one) if index in lot]))


def common_part(frame, one, other):
    """Return the COMMON PART of two VECTORS that AGREE."""
    return part(frame, one, common_places(frame, one, other))


def grouped_places(frame):
    """Return the ascending tuple of the PLACES of all cells that are not added."""
    return places_of(frame, tuple(range(len(frame[1]))))


class Sides:
    """For each parting of the groups of a FRAME into three kinds, what VECTORS in a SPACE have in common.

    The parts of these VECTORS in the groups make another SPACE, called ground. Let c, a
    and b be in the groups of the kinds 0, 1, and 2 alone. c is a COMMON PART if some c + a and
    some c + b are in the ground. Then a - b is, too, so a is one as well, and so is b: it is
    enough to look for c, as what differs from it by what is in the ground is a COMMON PART with it.
    """

    def __init__(self, frame, space):
        self.frame = frame
        self.many = len(frame[0])
        self.ground = seen_at(space, grouped_places(frame), self.many)
        self.known = {}

    def within_lot(self, lot):
        """Return the SPACE of what in the ground TOUCHES groups of a LOT alone."""
        if lot not in self.known:
            self.known[lot] = within(self.ground, places_of(self.frame, lot), self.many)
        return self.known[lot]

    def partings(self):
        """Return the list of tuples of three LOTS, none of them (), for each way to part the groups.

        It is empty where the ground has all COMMON PARTS, as it has what each VECTOR in it has in each group.
        """
        if len(self.ground) == self.most():
            return []
        told = [kinds for kinds in sharings(len(self.frame[1]), 3) if 2 in kinds]
        return [tuple([lot_with(kinds, kind) for kind in range(3)]) for kinds in told]

    def is_bound(self, one, other):
        """Tell whether something in the ground TOUCHES groups of two LOTS, and its parts in each are not in it."""
        both = self.within_lot(both_lots(one, other))
        return len(both) > len(self.within_lot(one)) + len(self.within_lot(other))

    def common(self, lots):
        """Return the SPACE of all c for three LOTS, or () if they are in the ground."""
        first, second, third = lots
        if not (self.is_bound(first, second) and self.is_bound(first, third) and self.is_bound(second, third)):
            return ()
        places = places_of(self.frame, first)
        seen = [seen_at(self.within_lot(both_lots(first, lot)), places, self.many) for lot in (second, third)]
        return cut(seen[0], seen[1], self.many)

    def most(self):
        """Return how many members a SPACE can have that is spanned by COMMON PARTS."""
        lots = [places_of(self.frame, (index,)) for index in range(len(self.frame[1]))]
        return sum([len(seen_at(self.ground, places, self.many)) for places in lots])


def lot_with(kinds, kind):
    """Return the LOT of the groups that are of a kind."""
    return tuple([index for index, told in enumerate(kinds) if told == kind])


def both_lots(one, other):
    """Return the LOT of the groups in either LOT."""
    return tuple(sorted(one + other))


def agreeing(frame, space):
    """Return the SPACE of the least linear set that has all COMMON PARTS of VECTORS in a SPACE that AGREE."""
    if frame[3] == "strict":
        return ()
    sides = Sides(frame, space)
    found, most = sides.ground, sides.most()
    for lots in sides.partings():
        if len(found) == most:
            break
        found = joined(found, sides.common(lots), sides.many)
    return found


def is_closed(frame, space):
    """Tell whether a SPACE is CLOSED."""
    return parting_pair(frame, space) is None


def parting_pair(frame, space):
    """Return two VECTORS in a SPACE that AGREE, and their COMMON PART, which is not in it; None if it is CLOSED."""
    if frame[3] == "strict":
        return None
    for row in space:
        vector = vector_of(row)
        common = common_part(frame, vector, vector)
        if not has(space, common):
            return (vector, vector, common)
    sides = Sides(frame, space)
    for lots in sides.partings():
        for row in sides.common(lots):
            if not has(space, vector_of(row)):
                return pair_with(sides, lots, row)
    return None


def pair_with(sides, lots, numbers):
    """Return a tuple of two VECTORS and their COMMON PART: a multiple of a WHOLE VECTOR that is one for three LOTS."""
    places, many = places_of(sides.frame, lots[0]), sides.many
    one, other = [led_on(sides.within_lot(both_lots(lots[0], lot)), places, numbers) for lot in lots[1:]]
    # All three have to be multiplied by the same number.
    joint = vector_of(cleared(one + other + vector_of(numbers)))
    return (joint[:many], joint[many:2 * many], joint[2 * many:])


def led_on(space, places, numbers):
    """Return a VECTOR in a SPACE that has the numbers of a WHOLE VECTOR at some places; there is one."""
    rows = [("=", tuple([row[place] for row in space]), numbers[place]) for place in places]
    shares = solved(tuple(rows), (0,) * len(space))[2]
    total = multiple(shares[0], vector_of(space[0]))
    for share, row in zip(shares[1:], space[1:]):
        total = added(total, multiple(share, vector_of(row)))
    return total


def drift_steps(book):
    """Return the tuple of SPACES from the DIRECTIONS of a BOOK up to its DRIFT."""
    return tuple(closing_steps(book[0], directions(book)))


def closing_steps(frame, space):
    """Return the list of SPACES from one up to a CLOSED one: each is spanned by the one ahead and its COMMON PARTS."""
    steps = [space]
    while True:
        fresh = joined(steps[-1], agreeing(frame, steps[-1]), len(frame[0]))
        if fresh == steps[-1]:
            return steps
        steps.append(fresh)


def drift(book):
    """Return the DRIFT of a BOOK."""
    return drift_steps(book)[-1]


def off_flat(book):
    """Return a HISTORY whose last STAND breaks an equation of all GOOD ones, None if there is none."""
    pair = parting_pair(book[0], directions(book))
    if pair is None:
        return None
    base, changes = inner(book), pair[:2]
    share = room(book, base, changes)
    mine, yours = [added(base, multiple(share, one)) for one in changes]
    return one_merge(base, mine, yours)


def room(book, stand, changes):
    """Return the greatest FRACTION, 1 at most, by which multiplied each change leads a GOOD STAND to a GOOD one.

    The changes have the VALUE 0 where a RULE has to be kept with its bound.
    """
    share = whole(1)
    for sign, reading, bound in book[1]:
        for one in changes:
            rise = value(reading, one)
            if sign_of(rise) > 0:
                limit = over(minus(whole(bound), value(reading, stand)), rise)
                share = limit if is_less(limit, share) else share
    return share


def one_merge(base, mine, yours):
    """Return the HISTORY of a base, two edits of it, and their merge."""
    return (("first", base), ("edit", 0, mine), ("edit", 0, yours), ("merge", 1, 2, 0))
