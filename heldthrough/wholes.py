"""WHOLE STANDS: the LATTICE of a SPACE, and how BOOKS are broken if all numbers have to be whole."""

from math import lcm

from heldthrough.books import value
from heldthrough.breaks import Bounds, Breaks
from heldthrough.directions import directions, inner
from heldthrough.drift import one_merge
from heldthrough.errors import Nothing
from heldthrough.fractions import added, floor_of, less, minus, multiple, over, sign_of, vector_of, whole
from heldthrough.lattices import hermite, levelled
from heldthrough.limits import check_stand, some_stand
from heldthrough.spaces import cleared, first_place, is_whole_vector, space_of, sum_of_products, units


def lattice(space, many):
    """Return the LATTICE of a SPACE."""
    if space == ():
        return ()
    places = [first_place(row) for row in space]
    modulus = 1
    for row, place in zip(space, places):
        modulus = lcm(modulus, row[place])
    # What is in the SPACE is told by its numbers at these places; they have to fit so that all others are whole.
    shares = [modulus // row[place] for row, place in zip(space, places)]
    rows = units(list(range(len(space))), len(space))
    for place in range(many):
        if place not in places:
            numbers = [share * row[place] for row, share in zip(space, shares)]
            values = [sum_of_products(numbers, row) for row in rows]
            rows = hermite(levelled(rows, values, modulus), len(space), modulus)
    return tuple([total_by(row, space, shares, modulus) for row in rows])


def total_by(numbers, space, shares, modulus):
    """Return the WHOLE VECTOR in a SPACE that has these numbers at the first places of its members."""
    totals = [0] * len(space[0])
    for number, share, row in zip(numbers, shares, space):
        totals = [total + number * share * one for total, one in zip(totals, row)]
    return tuple([total // modulus for total in totals])


def in_lattice(lattice, many, thing):
    """Return the tuple of the integers by which the members of a LATTICE add up to a value, None if there is none."""
    if not is_whole_vector(many, thing):
        return None
    found, left = [], thing
    for row in lattice:
        place = first_place(row)
        times = left[place] // row[place]
        found.append(times)
        left = tuple([number - times * one for number, one in zip(left, row)])
    return tuple(found) if first_place(left) is None else None


class Grid:
    """The WHOLE STANDS that keep all equations of a BOOK scaled by any integer.

    There are some for the multiples of step; start is one for step itself. Those for the same
    integer differ by sums of members, which are the LATTICE of the DIRECTIONS.
    """

    def __init__(self, book):
        many = len(book[0][0])
        *stand, den = cleared((*some_stand(book), (1, 1)))
        # The scale stands ahead of the cells: so the first member has the least one, all others have 0.
        rows = [(den, *stand)] + [(0, *row) for row in directions(book)]
        first, *rest = lattice(space_of(rows, many + 1), many + 1)
        self.step = first[0]
        self.start = vector_of(first[1:])
        self.members = [row[1:] for row in rest]

    def whole_near(self, stand, k):
        """Return a WHOLE STAND for a multiple of step, from which a STAND differs by shares of members below 1.

        The STAND keeps the equations, too; the shares are not below 0.
        """
        found = multiple(whole(k // self.step), self.start)
        left = less(stand, found)
        for row in self.members:
            place, vector = first_place(row), vector_of(row)
            share = over(left[place], vector[place])
            left = less(left, multiple(share, vector))
            found = added(found, multiple(whole(floor_of(share)), vector))
        return found


class Plan:
    """How a BOOK scaled is broken by WHOLE STANDS: by two changes of one that is near to a multiple of a GOOD STAND.

    If they raise a RULE, reading is its reading, and bound its bound; otherwise reading is 0: they break an equation.
    The multiple is led to the bound by turns of that change that raises less.
    """

    def __init__(self, book, found):
        self.source = book
        self.grid = Grid(book)
        self.changes = found[1:3]
        self.origin, self.reading, self.bound = inner(book), (0,) * len(book[0][0]), 0
        if found[0] == "bound":
            self.origin = found[4]
            self.reading, self.bound = book[1][found[3]][1:]
        self.lesser, greater = sorted(self.changes, key=self.rise)
        self.rises = (self.rise(self.lesser), self.rise(greater))

    def rise(self, numbers):
        """Return the VALUE at a WHOLE VECTOR of the reading of the RULE that is raised."""
        return sum_of_products(self.reading, numbers)

    def turns(self, slack):
        """Return how often a change is taken away so that the slack is below both rises together, but below none."""
        lesser, greater = self.rises
        return 0 if lesser == 0 else -((slack - greater) // lesser)

    def most_off(self, reading):
        """Return how much the VALUE of a READING is at most above that at the multiple, whichever change is made."""
        spread = sum([abs(self.rise(row)) for row in self.grid.members])
        turns = max(abs(self.turns(spread)), abs(self.turns(-spread)))
        spread = sum([abs(sum_of_products(reading, row)) for row in self.grid.members])
        rises = [sum_of_products(reading, one) for one in self.changes]
        return spread + turns * abs(sum_of_products(reading, self.lesser)) + max(0, *rises)

    def scale(self):
        """Return a multiple of step from which on each multiple goes well."""
        least = 1
        for sign, reading, bound in self.source[1]:
            left = minus(whole(bound), value(reading, self.origin))
            # Where nothing is left no change matters, or it is the RULE that is raised, or one like it.
            if sign_of(left) > 0:
                least = max(least, -floor_of(over(whole(-self.most_off(reading)), left)))
        return -(-least // self.grid.step) * self.grid.step

    def history(self, k):
        """Return the HISTORY of the BOOK scaled by a multiple of step, from the scale on."""
        base = self.grid.whole_near(multiple(whole(k), self.origin), k)
        turns = self.turns(k * self.bound - value(self.reading, base)[0])
        base = less(base, multiple(whole(turns), vector_of(self.lesser)))
        mine, yours = [added(base, vector_of(one)) for one in self.changes]
        return one_merge(base, mine, yours)


def plan_for(book):
    """Return the Plan by which a BOOK is broken, None if it survives."""
    found = Breaks(book[0], Bounds(book)).anywhere()
    return None if found is None else Plan(book, found)


def whole_step(book):
    """Return the least integer from 1 on by which scaled a BOOK has WHOLE STANDS that keep all its equations."""
    check_stand(book)
    return Grid(book).step


def from_scale(book):
    """Return a tuple (step, scale): from there on WHOLE STANDS break the BOOK scaled; None if it survives."""
    plan = plan_for(book)
    return None if plan is None else (plan.grid.step, plan.scale())


def whole_break(book, k):
    """Return a HISTORY of WHOLE STANDS whose merge breaks the BOOK scaled by k."""
    plan = plan_for(book)
    if plan is None or k < plan.scale() or k % plan.grid.step != 0:
        raise Nothing()
    return plan.history(k)
