"""Which STANDS are HELD, and the papers that prove it, or that they are not."""

from heldthrough.books import is_good
from heldthrough.directions import exact_rules, nearby
from heldthrough.forms import is_tuple_of, is_vector
from heldthrough.fractions import is_less, less, multiple, sign_of
from heldthrough.limits import is_multipliers, limit_by, worth
from heldthrough.programs import solved
from heldthrough.safe import few_outsides, is_nought_in_some
from heldthrough.spaces import cleared, common_den, cut, has, sum_by, sum_of_products


class Slope:
    """What VECTORS in a SPACE, added to a STAND, can make of it, by the RULES of a BOOK."""

    def __init__(self, book, space):
        self.source = book
        self.space = space
        # With no member there would be no unknown to solve for.
        self.members = space if space else ((0,) * len(book[0][0]),)
        self.numbers = [tuple([sum_of_products(rule[1], row) for row in self.members]) for rule in book[1]]

    def rows_at(self, stand):
        """Return the list of rows whose POINTS are the shares of the members, times the common den of the STAND."""
        *numbers, den = cleared((*stand, (1, 1)))
        found = []
        for (sign, reading, bound), along in zip(self.source[1], self.numbers):
            found.append((sign, along, bound * den - sum_of_products(reading, numbers)))
        return found

    def led(self, stand):
        """Return ("held", a GOOD STAND that differs by a VECTOR in the SPACE), or ("out", MULTIPLIERS that bar it)."""
        found = solved(tuple(self.rows_at(stand)), (0,) * len(self.members))
        if found[0] == "none":
            return ("out", found[1])
        return ("held", self.led_by(stand, found[2]))

    def led_by(self, stand, point):
        """Return what comes of a STAND by a POINT of its rows."""
        return sum_by(multiple((1, common_den(stand)), point), self.members, stand)

    def deepest(self, stand, exact, most):
        """Return what solved tells of shares of the members, and of the room, at most so much, of the other RULES."""
        room = [0 if index in exact else 1 for index in range(len(self.numbers))]
        rows = [(sign, along + (one,), bound) for (sign, along, bound), one in zip(self.rows_at(stand), room)]
        goal = (0,) * len(self.members) + (1,)
        return solved((*rows, ("<=", goal, most)), goal)

    def depth(self, stand, exact):
        """Return 1 if an INNER STAND differs by a VECTOR in the SPACE, else 0 if a GOOD one does, else -1."""
        found = self.deepest(stand, exact, 1)
        return -1 if found[0] == "none" else sign_of(found[1])

    def inner_near(self, stand, exact, flat):
        """Return an INNER STAND that differs by a VECTOR in the SPACE, None if there is none; it has much room.

        The exact RULES of the BOOK, and its DIRECTIONS, are known.
        """
        most = max([abs(bound) for sign, along, bound in self.rows_at(stand)] + [1])
        found = self.deepest(stand, exact, most)
        if found[0] == "none" or sign_of(found[1]) < 1:
            return None
        middle = self.led_by(stand, found[2])
        rows = self.rows_at(stand)
        level = tuple([("=", rows[index][1], rows[index][2]) for index in exact])
        start = self.led_by(stand, solved(level, (0,) * len(self.members))[2])
        return nearby(self.source, middle, start, cut(self.space, flat, len(stand)))


def place(book, stand):
    """Return whether a STAND is inside, on the rim, or out."""
    spaces, exact = few_outsides(book), exact_rules(book)
    depth = min([Slope(book, space).depth(stand, exact) for space in spaces])
    if depth < 0:
        return "out"
    return "inside" if depth > 0 else "rim"


def is_held(book, spaces, stand):
    """Tell whether for each of some SPACES some GOOD STAND differs from a STAND by a VECTOR in it."""
    return all([Slope(book, space).led(stand)[0] == "held" for space in spaces])


def held_paper(book, stand):
    """Return the proof that a STAND is HELD, or that it is not."""
    stands = []
    for space in few_outsides(book):
        word, paper = Slope(book, space).led(stand)
        if word == "out":
            return (word, paper)
        stands.append(paper)
    return ("held", tuple(stands))


def is_held_paper(book, stand, thing):
    """Tell whether a value is what held_paper may return."""
    if not is_tuple_of(thing, 2):
        return False
    if thing[0] == "held":
        return are_near(book, stand, thing[1])
    return thing[0] == "out" and is_barred(book, stand, thing[1])


def are_near(book, stand, thing):
    """Tell whether a value is a tuple of GOOD STANDS, one for each least OUTSIDE, by which the STAND differs."""
    spaces = few_outsides(book)
    if not is_tuple_of(thing, len(spaces)) or not all([is_vector(book[0], one) for one in thing]):
        return False
    return all([is_good(book, one) and has(space, less(one, stand)) for space, one in zip(spaces, thing)])


def is_barred(book, stand, thing):
    """Tell whether a value is MULTIPLIERS of a SAFE LIMIT that a STAND doesn't keep."""
    if not is_multipliers(book, thing):
        return False
    vector, bound = limit_by(book, thing)
    return is_less(bound, worth(vector, stand)) and is_nought_in_some(few_outsides(book), vector)
