"""The greatest VALUES at HELD STANDS, and which RULES hold at all of them."""

from heldthrough.books import scaled, value
from heldthrough.forms import is_fraction, is_tuple_of, is_vector
from heldthrough.fractions import added, is_at_most, multiple, plus, sign_of, vector_of, whole
from heldthrough.held import Slope, is_held
from heldthrough.limits import follows, is_multipliers, limit_by, sides_of, some_stand
from heldthrough.programs import lowered, solved
from heldthrough.safe import few_outsides, is_nought_in, is_nought_in_some
from heldthrough.spaces import cleared


class Hull:
    """SAFE LIMITS of a BOOK, found as they are asked for, as rows whose POINTS include all HELD STANDS.

    A POINT that is not HELD is barred by one LIMIT more, a WAY that leads out of what is
    HELD likewise, by the BOOK whose bounds are all 0. There are finitely many such
    LIMITS, as pivots find them, so it ends.
    """

    def __init__(self, book):
        self.source = book
        self.spaces = few_outsides(book)
        self.slopes = [Slope(book, space) for space in self.spaces]
        self.level_slopes = [Slope(scaled(book, 0), space) for space in self.spaces]
        # For each row, the index of the OUTSIDE at which its LIMIT is 0, and MULTIPLIERS that GIVE it.
        self.papers = []
        self.rows = []

    def bar(self, slopes, vector):
        """Put LIMITS to the rows that bar a STAND, or WAY, by slopes that fit it; tell whether there are any."""
        many = len(self.rows)
        for index, slope in enumerate(slopes):
            word, paper = slope.led(vector)
            if word == "out":
                self.put_limit(index, vector_of(lowered(cleared(paper))))
        return len(self.rows) > many

    def put_limit(self, index, multipliers):
        """Put the LIMIT that whole MULTIPLIERS GIVE to the rows."""
        vector, bound = limit_by(self.source, multipliers)
        signs = [rule[0] for rule, share in zip(self.source[1], multipliers) if sign_of(share) != 0]
        self.papers.append((index, multipliers))
        # What RULES of sign "=" alone give is given the other way round as well.
        self.rows.append(("<=" if "<=" in signs else "=", cleared(vector), bound[0]))

    def most(self, reading):
        """Return what solved tells of a reading over rows enough to bar what is not HELD from that."""
        while True:
            found = solved(tuple(self.rows), reading)
            slopes = self.slopes if found[0] == "at" else self.level_slopes
            if not self.bar(slopes, found[2]):
                return found

    def is_limit(self, side):
        """Tell whether a tuple (reading, bound) limits the VALUES at all HELD STANDS."""
        reading, bound = side
        found = self.most(reading)
        return found[0] == "at" and is_at_most(found[1], whole(bound))

    def does_hold(self, rule):
        """Tell whether each HELD STAND keeps a RULE."""
        if not follows(self.source, rule):
            return False
        # A SAFE reading has no greater VALUE at HELD STANDS than at GOOD ones.
        return is_nought_in_some(self.spaces, rule[1]) or all([self.is_limit(side) for side in sides_of(rule)])

    def terms(self, shares):
        """Return the tuple of MULTIPLIERS, one for each OUTSIDE, that come of MULTIPLIERS of the rows."""
        nought = (whole(0),) * len(self.source[1])
        found = [nought for _ in self.spaces]
        for share, (index, multipliers) in zip(shares, self.papers):
            found[index] = added(found[index], multiple(share, multipliers))
        return tuple(found)


def greatest_held(book, reading):
    """Return where a READING has its greatest VALUE at HELD STANDS, with the proof, or how it has any."""
    hull = Hull(book)
    found = hull.most(reading)
    if found[0] == "endless":
        return ("endless", some_stand(book), found[2])
    return ("at", found[1], found[2], hull.terms(found[3]))


def is_greatest_held(book, reading, thing):
    """Tell whether a value is what greatest_held may return."""
    if not isinstance(thing, tuple) or thing == ():
        return False
    if thing[0] == "endless":
        return is_tuple_of(thing, 3) and is_endless_held(book, reading, thing[1], thing[2])
    return thing[0] == "at" and is_tuple_of(thing, 4) and is_at_held(book, reading, thing)


def is_endless_held(book, reading, stand, way):
    """Tell whether two values are a HELD STAND, and a VECTOR on which one goes on from it, the reading growing."""
    if not is_vector(book[0], stand) or not is_vector(book[0], way) or sign_of(value(reading, way)) < 1:
        return False
    spaces = few_outsides(book)
    return is_held(book, spaces, stand) and is_held(scaled(book, 0), spaces, way)


def is_at_held(book, reading, thing):
    """Tell whether a tuple has a HELD STAND, the VALUE there, and terms that prove it to be greatest."""
    most, stand, terms = thing[1:]
    if not is_fraction(most) or not is_vector(book[0], stand) or value(reading, stand) != most:
        return False
    spaces = few_outsides(book)
    if not are_terms(book, spaces, terms) or total_limit(book, terms) != (vector_of(reading), most):
        return False
    return is_held(book, spaces, stand)


def are_terms(book, spaces, thing):
    """Tell whether a value is a tuple of MULTIPLIERS, one for each OUTSIDE, of a LIMIT that is 0 there."""
    if not is_tuple_of(thing, len(spaces)) or not all([is_multipliers(book, one) for one in thing]):
        return False
    return all([is_nought_in(space, limit_by(book, one)[0]) for space, one in zip(spaces, thing)])


def total_limit(book, terms):
    """Return the tuple (vector, bound) to which the LIMITS by all terms add up."""
    vector, bound = limit_by(book, terms[0])
    for one in terms[1:]:
        limit = limit_by(book, one)
        vector, bound = added(vector, limit[0]), plus(bound, limit[1])
    return (vector, bound)


def holds(book, rule):
    """Tell whether each HELD STAND keeps a RULE."""
    return Hull(book).does_hold(rule)


def kept_rules(book):
    """Return the ascending tuple of the indexes of the RULES of a BOOK that each HELD STAND keeps."""
    hull = Hull(book)
    return tuple([index for index, rule in enumerate(book[1]) if hull.does_hold(rule)])


def survives(book):
    """Tell whether each HELD STAND keeps all RULES of a BOOK."""
    frame, rules = book
    spaces = few_outsides(book)
    safe = tuple([rule for rule in rules if is_nought_in_some(spaces, rule[1])])
    # A RULE that is no sum of others is a LIMIT that must be SAFE itself, as it is no sum of SAFE ones.
    return all([follows((frame, safe), rule) for rule in rules if rule not in safe])
