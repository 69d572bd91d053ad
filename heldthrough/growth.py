"""Trees of merges that grow till they come to a STAND that is INSIDE.

At first a tree is one GOOD STAND. As long as it cannot come to the STAND, only some share of the way there
from an INNER STAND, one of its leaves becomes a merge of three GOOD STANDS, where
that leads on. Which one this is, is told by what bounds the share: a sum of readings, one for each leaf.
"""

from heldthrough.books import keeps, value
from heldthrough.crossing import lot_of, uncrossed
from heldthrough.directions import inner
from heldthrough.errors import TooMany
from heldthrough.fractions import floor_of, is_less, less, minus, nought, over, plus, times, whole
from heldthrough.programs import solved
from heldthrough.spaces import cleared, first_place, has, sum_by, sum_of_products
from heldthrough.strides import MOST_DEEDS
from heldthrough.trees import fork, leaf

MOST_FORKS = 24
MOST_TRIED = 8
MOST_STUCK = 8
LEAST_GAIN = (1, 64)
ENDLESS = 1000000000
MOST_COST = 800000000
FEW_FIGURES = 50
MANY_FIGURES = 500


class Sprout:
    """A place in a tree: a leaf, or a merge of three, parted by a LOT; above is the LOT of the merge above it.

    Only those RULES are looked at for a leaf that some STAND there broke; near tells their indexes.
    """

    def __init__(self, above, near):
        self.above = above
        self.near = near
        self.lot = None
        self.below = []

    def split(self, lot):
        """Make a leaf a merge."""
        self.lot = lot
        self.below = [Sprout(lot, list(self.near)) for _ in range(3)]

    def close(self):
        """Make a merge a leaf again."""
        self.lot = None
        self.below = []


class Growth:
    """A tree that grows, the share of the way that it can come to, and its tips: what is best at its leaves for that.

    A tip is a tuple (sprout, stand, reading): a leaf, the STAND there, and a reading of FRACTIONS. If the
    STAND could be led on so that the VALUE grows, so could the share, by as much, as far as one can see.
    """

    def __init__(self, ground, goal):
        self.ground = ground
        self.begin = inner(ground.source)
        self.way = less(goal, self.begin)
        *numbers, self.den = cleared(self.begin + self.way + ((1, 1),))
        self.numbers, self.line = numbers[:ground.many], tuple(numbers[ground.many:])
        self.rules = [rule for index, rule in enumerate(ground.source[1]) if index not in ground.exact]
        self.gains = {}
        numbers = [*numbers, *[number for rule in self.rules for number in rule[1]]]
        self.figures, self.left = max([abs(number) for number in numbers]).bit_length(), MOST_COST
        self.root = Sprout(None, [])
        self.share, self.tips = self.solution()

    def parting(self, lot):
        """Return the list of a LOT and of the LOT of all other groups."""
        return [lot, tuple([index for index in range(len(self.ground.frame[1])) if index not in lot])]

    def spaces_of(self, lot):
        """Return the list of the SPACES of the DIRECTIONS that TOUCH a LOT alone, and other groups alone."""
        return [self.ground.within_lot(self.ground.flat, one) for one in self.parting(lot)]

    def put_leaves(self, sprout, rows, many, found):
        """Put tuples (leaf, rows) to a list; return how many unknowns there are.

        The rows are a dict from unknowns: the share, and those of the merges above; the sum of their
        multiples is added to the STAND at the beginning. There were so many unknowns.
        """
        if sprout.lot is None:
            found.append((sprout, rows))
            return many
        both = []
        for space in self.spaces_of(sprout.lot):
            both.append({many + at: row for at, row in enumerate(space)})
            many += len(space)
        mine, yours = both
        # The merge has both changes more than the base, and one more than each of the others.
        for below, lacking in zip(sprout.below, ({**mine, **yours}, yours, mine)):
            less_rows = {one: tuple([-number for number in row]) for one, row in lacking.items()}
            many = self.put_leaves(below, {**rows, **less_rows}, many, found)
        return many

    def solution(self):
        """Return the tuple (share, tips) of the tree as it is."""
        leaves = []
        many = self.put_leaves(self.root, {0: self.line}, 1, leaves)
        while True:
            found = self.solved_near(leaves, many)
            stands = [sum_by([over(found[2][one], whole(self.den)) for one in line], list(line.values()), self.begin)
                      for _, line in leaves]
            missed = [self.put_missed(sprout, stand) for (sprout, _), stand in zip(leaves, stands)]
            if not any(missed):
                return (found[1], self.tips_by(leaves, stands, found[3]))

    def solved_near(self, leaves, many):
        """Return what solved tells of the share, if just those RULES are looked at that are near."""
        rows = []
        for sprout, line in leaves:
            for index in sprout.near:
                sign, reading, bound = self.rules[index]
                numbers = [0] * many
                for one, row in line.items():
                    numbers[one] = sum_of_products(reading, row)
                rows.append((sign, tuple(numbers), bound * self.den - sum_of_products(reading, self.numbers)))
        self.spend(len(rows) * many * many)
        goal = (1,) + (0,) * (many - 1)
        return solved((*rows, ("<=", goal, 1)), goal)

    def spend(self, size):
        """Spend what a program of some size costs; raise TooMany if it is more than is left."""
        figures = self.figures + FEW_FIGURES
        self.left -= size * figures * (figures + MANY_FIGURES) // MANY_FIGURES
        # What would take minutes, as numbers get long, is not looked for.
        if self.left < 0:
            raise TooMany(MOST_DEEDS)

    def put_missed(self, sprout, stand):
        """Put the RULES that a STAND at a leaf breaks to those that are near there; tell whether there are any."""
        broken_ones = [index for index, rule in enumerate(self.rules) if not keeps(rule, stand)]
        sprout.near = sorted(sprout.near + broken_ones)
        return broken_ones != []

    def tips_by(self, leaves, stands, shares):
        """Return the list of the tips, by the MULTIPLIERS of the rows of RULES that are near."""
        found, begin = [], 0
        for (sprout, _), stand in zip(leaves, stands):
            readings = [self.rules[index][1] for index in sprout.near]
            found.append((sprout, stand, sum_by(shares[begin:], readings, nought(self.ground.frame))))
            begin += len(readings)
        return found

    def gain(self, tip, lot):
        """Return how much the share grows, as far as one can see, if a tip becomes a merge parted by a LOT."""
        stand, reading = tip[1], cleared(tip[2])
        if (reading, lot) not in self.gains:
            self.gains[(reading, lot)] = self.rise(reading, value(reading, stand), lot)
        place = first_place(reading)
        return times(self.gains[(reading, lot)], over(tip[2][place], whole(reading[place])))

    def rise(self, reading, most, lot):
        """Return how much the VALUE of a READING, at most most at GOOD STANDS, can grow by a merge parted by a LOT."""
        spaces = [self.ground.flat, *self.spaces_of(lot)]
        rows = []
        for free in ((1, 0, 0), (1, 1, 0), (1, 0, 1)):
            for sign, one, bound in self.rules:
                rows.append((sign, along(one, spaces, free), bound * self.den - sum_of_products(one, self.numbers)))
        goal, begin = along(reading, spaces, (1, 1, 1)), sum_of_products(reading, self.numbers)
        top = plus(most, whole(ENDLESS))
        rows.append(("<=", tuple([number * top[1] for number in goal]), top[0] * self.den - begin * top[1]))
        found = solved(tuple(rows), goal)
        return minus(over(plus(found[1], whole(begin)), whole(self.den)), most)

    def best(self):
        """Return the tuple (share, sprout, lot) of the best merge to make of a leaf; None if there is none."""
        seen = []
        for tip in self.tips:
            for lot in self.lots_for(tip):
                seen.append((floor_of(times(self.gain(tip, lot), whole(ENDLESS))), tip[0], lot))
        best = None
        for _, sprout, lot in sorted(seen, key=lambda one: one[0], reverse=True)[:MOST_TRIED]:
            sprout.split(lot)
            share = self.solution()[0]
            sprout.close()
            if best is None or is_less(best[0], share):
                best = (share, sprout, lot)
        return best

    def split(self, sprout, lot):
        """Make a leaf a merge that is parted by a LOT."""
        sprout.split(lot)
        self.share, self.tips = self.solution()

    def lots_for(self, tip):
        """Return the list of the LOTS of LEAST CHANGES that raise a tip's reading, and so do others not CROSSED."""
        frame, reading = self.ground.frame, cleared(tip[2])
        moving = [change for change in self.ground.changes if sum_of_products(reading, change) != 0]
        found = []
        for one, _ in uncrossed(frame, moving):
            lot = lot_of(frame, moving[one])
            # What is parted once more in the same way grows little.
            if lot not in found and tip[0].above not in self.parting(lot):
                found.append(lot)
        return found

    def grown(self):
        """Return the tree that comes to the share."""
        return tree_of(self.root, [tip[1] for tip in self.tips])


def tree_of(sprout, stands):
    """Return the tree below a Sprout; the STANDS at its leaves are taken from a list."""
    if sprout.lot is None:
        return leaf(stands.pop(0))
    base, mine, yours = [tree_of(one, stands) for one in sprout.below]
    return fork(base, mine, yours)


def along(reading, spaces, shares):
    """Return the tuple of the VALUES of a READING at the members of SPACES, multiplied by a number for each SPACE."""
    return tuple([share * sum_of_products(reading, row) for space, share in zip(spaces, shares) for row in space])


def grown_tree(ground, goal):
    """Return the tree that comes to a STAND that is INSIDE."""
    growth, stuck = Growth(ground, goal), 0
    if not has(ground.flat, growth.way):
        raise TooMany(MOST_DEEDS)
    for _ in range(MOST_FORKS):
        if growth.share == whole(1):
            break
        best = growth.best()
        if best is None or stuck > MOST_STUCK:
            raise TooMany(MOST_DEEDS)
        gained, left = minus(best[0], growth.share), minus(whole(1), growth.share)
        stuck = stuck + 1 if is_less(gained, times(LEAST_GAIN, left)) else 0
        growth.split(best[1], best[2])
    if growth.share != whole(1):
        raise TooMany(MOST_DEEDS)
    return growth.grown()
