"""How far STANDS can be led at once, all of them staying GOOD, and the STEPS that come of it."""

from math import gcd

from heldthrough.books import value
from heldthrough.directions import inner
from heldthrough.errors import TooMany
from heldthrough.fractions import added, is_less, less, minus, multiple, nought, over, plus, times, whole
from heldthrough.frames import moved, part, places_of
from heldthrough.programs import solved
from heldthrough.spaces import cleared, sum_of_products
from heldthrough.trees import Story, leaf

MOST_STEPS = 300
MOST_DEEDS = 4000


def stride(book, free, ends, most):
    """Return a tuple (share, vector): the greatest share, at most the given one, and a VECTOR; None if there is none.

    The VECTOR MOVES only cells at the free places. Each of the ends is a tuple (stand, way): the STAND,
    the VECTOR, and the share of the way make a GOOD STAND together.
    """
    found = striding(book, free, ends, most)
    return None if found is None else found[:2]


def striding(book, free, ends, most):
    """Return what stride does, and behind it the list of MULTIPLIERS of the RULES at each of the ends, one by one.

    They GIVE the share, if all is multiplied by the den of the STANDS.
    """
    stands, den = joint([end[0] for end in ends])
    ways, part_of = joint([end[1] for end in ends])
    rows = [("<=", (0,) * len(free) + (most[1] * part_of,), most[0] * den)]
    for stand, way in zip(stands, ways):
        for sign, reading, bound in book[1]:
            numbers = tuple([reading[place] for place in free]) + (sum_of_products(reading, way),)
            rows.append((sign, numbers, bound * den - sum_of_products(reading, stand)))
    # All unknowns are multiplied by the den of the STANDS, and the share is divided by the one of the ways.
    found = solved(tuple(rows), (0,) * len(free) + (part_of,))
    if found[0] != "at":
        return None
    vector = list(nought(book[0]))
    for place, number in zip(free, found[2]):
        vector[place] = over(number, whole(den))
    return (over(found[1], whole(den)), tuple(vector), found[3][1:])


def joint(vectors):
    """Return the tuple (rows, den) of the list of VECTORS as WHOLE VECTORS, all multiplied by the least den for it."""
    width = len(vectors[0])
    *numbers, den = cleared(tuple([number for vector in vectors for number in vector]) + ((1, 1),))
    return ([numbers[begin:begin + width] for begin in range(0, len(numbers), width)], den)


def free_places(frame, lot):
    """Return the tuple of the PLACES of all cells that are not in the groups of a LOT."""
    own = places_of(frame, lot)
    return tuple([place for place in range(len(frame[0])) if place not in own])


def steps_to(book, stand):
    """Return the HISTORY that goes to a STAND by STEPS, group by group."""
    begin, left, told = inner(book), MOST_STEPS, []
    for index in range(len(book[0][1])):
        line = Line(book, index, begin, stand)
        told.append((line, line.stops(left)))
        left -= len(told[-1][1]) - 1
    story = Story()
    story.put_chain(None, leaf(begin), [link for line, stops in told for link in line.links(stops)])
    return story.history()


class Line:
    """The straight line in one group from the one STAND to the other; how far it can be gone at once from each place.

    A place is told by its share of the line. At most as far as the whole line is looked at. How far it is
    bends down, and is straight on each of the spans, which are tuples of two marks.
    """

    def __init__(self, book, index, begin, end):
        self.source = book
        self.free = free_places(book[0], (index,))
        places = places_of(book[0], (index,))
        self.begin = part(book[0], begin, places)
        self.way = less(part(book[0], end, places), self.begin)
        self.spans = self.found_spans() if moved(self.way) else []

    def found_spans(self):
        """Return the ascending list of the spans."""
        left, found = [(self.mark(whole(0)), self.mark(whole(1)))], []
        while left:
            low, high = left.pop()
            # If what limits it at one end is met at the other, it is met between as well.
            if low.limit_at(high.share) == high.far or high.limit_at(low.share) == low.far:
                found.append((low, high))
            else:
                middle = self.mark(low.crossing(high))
                left.extend([(middle, high), (low, middle)])
        return found

    def mark(self, share):
        """Return the Mark of a place."""
        here = added(self.begin, multiple(share, self.way))
        ends = [(here, nought(self.source[0])), (here, self.way)]
        far, rest, multipliers = striding(self.source, self.free, ends, whole(1))
        slope = whole(0)
        for one, rule in zip(multipliers, self.source[1] * 2):
            slope = minus(slope, times(one, value(rule[1], self.way)))
        return Mark(share, far, slope, rest)

    def stops(self, most):
        """Return the list of the shares at which the STEPS begin and end; raise TooMany if they are more than most."""
        found, spans = [whole(0)], list(self.spans)
        while spans and found[-1] != whole(1):
            if len(found) > most:
                raise TooMany(MOST_DEEDS)
            low, high = spans[0]
            if is_less(high.share, found[-1]):
                spans.pop(0)
                continue
            slope = over(minus(high.far, low.far), minus(high.share, low.share))
            far = minus(low.far, times(slope, low.share))
            there = led_on(found[-1], plus(whole(1), slope), far)
            found.append(there if is_less(there, whole(1)) else whole(1))
        return found

    def links(self, stops):
        """Return the links of the STEPS from stop to stop: tuples of trees, as a chain takes them."""
        found, spans = [], list(self.spans)
        for share, there in zip(stops, stops[1:]):
            while is_less(spans[0][1].share, share):
                spans.pop(0)
            found.append((leaf(self.stand_at(share, share, spans[0])), leaf(self.stand_at(there, share, spans[0]))))
        return found

    def stand_at(self, share, start, span):
        """Return the GOOD STAND that is at a share of the line, in a STEP that starts at another one, in a span."""
        low, high = span
        slopes = multiple(over(whole(1), minus(high.share, low.share)), less(high.rest, low.rest))
        firsts = less(low.rest, multiple(low.share, slopes))
        return tuple([led_on(start, slopes[place], firsts[place]) if place in self.free
                      else led_on(share, self.way[place], self.begin[place]) for place in range(len(slopes))])


class Mark:
    """A place of a Line: how far one can go from there, what limits that, and a VECTOR in all other cells for it.

    What limits it is a straight line by the same MULTIPLIERS, as far as a slope leads along from here.
    """

    def __init__(self, share, far, slope, rest):
        self.share = share
        self.far = far
        self.slope = slope
        self.rest = rest

    def limit_at(self, share):
        """Return what limits how far one can go from another place."""
        return plus(self.far, times(self.slope, minus(share, self.share)))

    def crossing(self, other):
        """Return the share at which this limit and the one of another Mark are equal; their slopes are not."""
        apart = minus(other.limit_at(whole(0)), self.limit_at(whole(0)))
        return over(apart, minus(self.slope, other.slope))


def led_on(share, slope, first):
    """Return a FRACTION multiplied by a slope, and a first one added to it."""
    if slope[0] == 0:
        return first
    num = slope[0] * first[1] * share[0] + first[0] * slope[1] * share[1]
    den = slope[1] * first[1] * share[1]
    # A share may be long, but is in lowest terms: so what divides both divides the product of some short ones.
    common = gcd(gcd(num, slope[0] * slope[1] * first[1] * first[1]), den)
    return (num // common, den // common)
