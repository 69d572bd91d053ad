"""Chains: the way from one STAND to another one by Moves, in many short rounds where it has to be."""

from heldthrough.crossing import do_meet
from heldthrough.fractions import added, floor_of, fraction, is_less, less, minus, multiple, nought, over, plus, whole
from heldthrough.frames import moved, part, places_of
from heldthrough.held import Slope
from heldthrough.roving import shares_in
from heldthrough.spaces import has, space_of, sum_by
from heldthrough.strides import free_places, stride
from heldthrough.trees import leaf, leaves_of, led_tree, size_of


class Leg:
    """What one Move brings of the way; ahead is what is brought before it each time."""

    def __init__(self, book, move, vector, ahead):
        self.source = book
        self.tree = move.tree_for(vector)
        self.places = places_of(book[0], move.lot)
        self.free = free_places(book[0], move.lot)
        begin = part(book[0], ahead, self.places)
        self.ways = [begin] + [added(begin, offset) for offset in leaves_of(self.tree)]

    def room(self, here, most):
        """Return the greatest share of the Move, at most the given one, to go from a STAND; 0 if there is none."""
        here = part(self.source[0], here, self.places)
        found = stride(self.source, self.free, [(here, way) for way in self.ways], most)
        return whole(0) if found is None or is_less(found[0], whole(0)) else found[0]

    def base(self, here, share):
        """Return a GOOD STAND from which a share of the Move can be gone, and merged with a STAND."""
        here, still = part(self.source[0], here, self.places), nought(self.source[0])
        ends = [(added(here, multiple(share, way)), still) for way in self.ways]
        return added(ends[0][0], stride(self.source, self.free, ends, whole(1))[1])

    def link(self, base, share):
        """Return the link of a chain that goes a share of the Move from a base."""
        return (leaf(base), led_tree(self.tree, base, share))


class Chain:
    """The way from a STAND by legs, all of them at once."""

    def __init__(self, begin, legs, way):
        self.begin = begin
        self.legs = legs
        self.way = way
        # Tuples (begin, share, many): from a share of the way one goes on by another one, in so many rounds.
        self.spans = []

    def at(self, share):
        """Return the STAND at a share of the way."""
        return added(self.begin, multiple(share, self.way))

    def room(self, share, most):
        """Return how far all legs can be gone from the STAND at a share of the way."""
        least = most
        for leg in self.legs:
            one = leg.room(self.at(share), most)
            least = one if is_less(one, least) else least
        return least

    def is_planned(self):
        """Find the spans of the whole way; tell whether it can be gone."""
        done, left = whole(0), whole(1)
        near = self.room(done, left)
        while is_less(near, left):
            left = over(left, whole(2))
            there = minus(whole(1), left)
            far = self.room(there, left)
            if not self.is_crossed(done, near, there, far):
                return False
            done, near = there, far
        self.spans.append((done, left, 1))
        return True

    def is_crossed(self, begin, near, end, far):
        """Find the spans from a share of the way to another one, with some room at both; tell whether there are."""
        left = [(begin, near, end, far)]
        while left:
            begin, near, end, far = left.pop()
            least, most = (near, far) if is_less(near, far) else (far, near)
            if least == whole(0):
                return False
            many = -floor_of(over(minus(begin, end), least))
            if many > 2 and is_less(plus(least, least), most):
                # With little room at one end it is shorter to go on by steps that get longer.
                middle = over(plus(begin, end), whole(2))
                between = self.room(middle, minus(whole(1), middle))
                left.extend([(middle, between, end, far), (begin, near, middle, between)])
            else:
                self.spans.append((begin, minus(end, begin), many))
        return True

    def size(self):
        """Return how many DEEDS the spans make."""
        return sum([many for begin, share, many in self.spans]) * sum([2 + size_of(leg.tree) for leg in self.legs])

    def links(self):
        """Return the list of the links of all spans."""
        found = []
        for begin, length, many in self.spans:
            share = over(length, whole(many))
            firsts = [leg.base(self.at(begin), share) for leg in self.legs]
            end = self.at(plus(begin, length))
            lasts = firsts if many == 1 else [leg.base(end, share) for leg in self.legs]
            for turn in range(many):
                for leg, first, last in zip(self.legs, firsts, lasts):
                    # What can be gone from both ends can be gone from between them.
                    base = added(first, multiple(fraction(turn, many), less(last, first)))
                    found.append(leg.link(base, share))
        return found


class Way:
    """The way from a STAND to another one: chains, one behind the other, and a lift, which MOVES added cells alone."""

    def __init__(self, begin, chains, lift):
        self.begin = begin
        self.chains = chains
        self.lift = lift

    def size(self):
        """Return how many DEEDS the chains make."""
        return sum([chain.size() for chain in self.chains])

    def links(self):
        """Return the list of the links of all chains."""
        return [link for chain in self.chains for link in chain.links()]


def way_to(ground, goal, moves, begin):
    """Return a short Way to a STAND by some of the Moves; None if there is none.

    It goes from the STAND where to begin, from an INNER STAND if that is None.
    """
    if begin_by(ground, goal, moves, begin) is None:
        return None
    # Few great LOTS, or many small ones: either can be the shorter way.
    ways = [way_by(ground, goal, few_moves(ground, goal, one, begin), begin) for one in (moves, moves[::-1])]
    return min([way for way in ways if way is not None], key=lambda way: way.size(), default=None)


def begin_by(ground, goal, moves, begin):
    """Return the STAND where to begin if Moves, and lifts, lead from there to a STAND; else None."""
    space = space_of([row for move in moves for row in move.space] + list(ground.lifts), ground.many)
    if begin is None:
        return Slope(ground.source, space).inner_near(goal, ground.exact, ground.flat)
    return begin if has(space, less(goal, begin)) else None


def few_moves(ground, goal, moves, begin):
    """Return a list of Moves that suffice, the last ones being left out where they can be."""
    for at in range(len(moves) - 1, -1, -1):
        fewer = moves[:at] + moves[at + 1:]
        if begin_by(ground, goal, fewer, begin) is not None:
            moves = fewer
    return moves


def way_by(ground, goal, moves, begin):
    """Return the Way to a STAND by all of some Moves, None if there is none."""
    begin = begin_by(ground, goal, moves, begin)
    left = less(goal, begin)
    rows = [row for move in moves for row in move.space]
    shares = shares_in([*rows, *ground.lifts, (0,) * ground.many], left)
    parts = []
    for move in moves:
        vector = sum_by(shares, move.space, nought(ground.frame))
        shares = shares[len(move.space):]
        if moved(vector):
            parts.append((move, vector))
            left = less(left, vector)
    chains, here = [], begin
    for bundle in bundles(parts):
        chains.append(chain_by(ground, here, bundle))
        here = added(here, chains[-1].way)
    return Way(begin, chains, left) if all([chain.is_planned() for chain in chains]) else None


def chain_by(ground, begin, bundle):
    """Return the Chain from a STAND by Moves, told as tuples (move, vector)."""
    legs, ahead = [], nought(ground.frame)
    for move, vector in bundle:
        legs.append(Leg(ground.source, move, vector, ahead))
        ahead = added(ahead, vector)
    return Chain(begin, legs, ahead)


def bundles(parts):
    """Return the list of lists of tuples (move, vector): those whose LOTS hang together have to be gone at once."""
    found = []
    for one in parts:
        apart = [bundle for bundle in found if not do_hang(one, bundle)]
        bound = [told for bundle in found if do_hang(one, bundle) for told in bundle]
        found = apart + [bound + [one]]
    return found


def do_hang(one, bundle):
    """Tell whether a Move has a group in common with one of a bundle."""
    return any([do_meet(one[0].lot, move.lot) for move, _ in bundle])
