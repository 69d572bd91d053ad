"""SPACES: the linear sets of VECTORS, each told by the one basis in reduced row echelon form.

In here a led row is a tuple (place, row): a list or tuple of integers, and the place of
the first cell that it MOVES.
"""

from math import gcd, lcm

from heldthrough.forms import is_integer, is_tuple_of
from heldthrough.fractions import added, floor_of, fraction, multiple, times, vector_of, whole


def cleared(vector):
    """Return the WHOLE VECTOR that is the multiple of a VECTOR by the least integer for which there is one."""
    common = common_den(vector)
    return tuple([num * (common // den) for num, den in vector])


def first_place(numbers):
    """Return the place of the first number that is not 0, None if there is none."""
    for place, number in enumerate(numbers):
        if number != 0:
            return place
    return None


def primitive(numbers):
    """Return a WHOLE VECTOR, not 0, divided so that it has no common divisor, and its first number is above 0."""
    common = 0
    for number in numbers:
        common = gcd(common, number)
    if numbers[first_place(numbers)] < 0:
        common = -common
    return tuple([number // common for number in numbers])


def sum_of_products(one, other):
    """Return the sum of the products of two WHOLE VECTORS, cell by cell."""
    return sum([mine * yours for mine, yours in zip(one, other)])


def rest_of(led, numbers):
    """Return a multiple of a WHOLE VECTOR, less multiples of led rows, that is 0 at the places of these.

    Each of the led rows is 0 at the places of all others.
    """
    scale = 1
    for place, row in led:
        scale = lcm(scale, row[place] // gcd(row[place], numbers[place]))
    rest = [scale * number for number in numbers]
    for place, row in led:
        share = rest[place] // row[place]
        if share != 0:
            rest = [number - share * other for number, other in zip(rest, row)]
    return rest


def space_of(vectors, many):
    """Return the SPACE of the least linear set that has some WHOLE VECTORS."""
    led = []
    for vector in vectors:
        # Whatever comes behind is in it, too.
        if len(led) == many:
            break
        rest = rest_of(led, vector)
        place = first_place(rest)
        if place is not None:
            fresh = primitive(rest)
            led = [(at, freed(row, place, fresh)) for at, row in led] + [(place, fresh)]
    return tuple([row for place, row in sorted(led)])


def freed(row, place, numbers):
    """Return a WHOLE VECTOR less a multiple of another one that is led at a place, so that it is 0 there."""
    return row if row[place] == 0 else primitive(rest_of([(place, numbers)], row))


def is_space(many, thing):
    """Tell whether a value is a SPACE."""
    if not isinstance(thing, tuple) or not all([is_whole_vector(many, row) for row in thing]):
        return False
    if not all([first_place(row) is not None and primitive(row) == row for row in thing]):
        return False
    places = [first_place(row) for row in thing]
    if places != sorted(set(places)):
        return False
    return all([row[place] == 0 for row in thing for place in places if place != first_place(row)])


def is_whole_vector(many, thing):
    """Tell whether a value is a WHOLE VECTOR of so many numbers."""
    return is_tuple_of(thing, many) and all([is_integer(number) for number in thing])


def has(space, vector):
    """Tell whether a VECTOR is in a SPACE."""
    led = [(first_place(row), row) for row in space]
    return first_place(rest_of(led, cleared(vector))) is None


def lies_in(one, other):
    """Tell whether all VECTORS in the one SPACE are in the other."""
    return len(one) <= len(other) and all([has(other, vector_of(row)) for row in one])


def joined(one, other, many):
    """Return the SPACE of the least linear set that has all VECTORS in either SPACE."""
    return space_of(one + other, many)


def cut(one, other, many):
    """Return the SPACE of the VECTORS in both SPACES."""
    return upright(joined(upright(one, many), upright(other, many), many), many)


def upright(space, many):
    """Return the SPACE of all VECTORS whose products with each one in a SPACE add up to 0."""
    led = [(first_place(row), row) for row in space]
    firsts = [place for place, row in led]
    return space_of([upright_at(led, place, many) for place in range(many) if place not in firsts], many)


def upright_at(led, free, many):
    """Return the WHOLE VECTOR upright to led rows that MOVES just one cell, and the cells of their places."""
    scale = 1
    for place, row in led:
        scale = lcm(scale, row[place] // gcd(row[place], row[free]))
    numbers = [0] * many
    numbers[free] = scale
    for place, row in led:
        numbers[place] = -scale * row[free] // row[place]
    return numbers


def within(space, places, many):
    """Return the SPACE of the VECTORS in a SPACE that MOVE cells at these places alone."""
    barred = [place for place in range(many) if place not in places]
    order = barred + list(places)
    # With the barred cells ahead, what MOVES none of them stands in the last rows, reduced already.
    rows = space_of([[row[place] for place in order] for row in space], many)
    return tuple([put_back(row, order) for row in rows if first_place(row) >= len(barred)])


def put_back(row, order):
    """Return the WHOLE VECTOR that has the numbers of a row at the places that order tells."""
    numbers = [0] * len(row)
    for place, number in zip(order, row):
        numbers[place] = number
    return tuple(numbers)


def seen_at(space, places, many):
    """Return the SPACE of what the VECTORS in a SPACE have at some places, with 0 in all other cells."""
    return space_of([kept_at(row, places) for row in space], many)


def kept_at(numbers, places):
    """Return the WHOLE VECTOR that is as the given one at these places, and 0 in all other cells."""
    return tuple([number if place in places else 0 for place, number in enumerate(numbers)])


def units(places, many):
    """Return the SPACE of all VECTORS that MOVE only cells at these places."""
    return tuple([tuple([1 if other == place else 0 for other in range(many)]) for place in places])


def sum_by(shares, rows, vector):
    """Return a VECTOR and WHOLE VECTORS, each multiplied by its share, added up."""
    for share, row in zip(shares, rows):
        vector = added(vector, multiple(share, vector_of(row)))
    return vector


def rounded(shares, parts):
    """Return the list of FRACTIONS that are a number of so many parts each, less than one part below others."""
    return [fraction(floor_of(times(share, whole(parts))), parts) for share in shares]


def common_den(vector):
    """Return the least integer from 1 on by which multiplied a VECTOR is whole."""
    common = 1
    for _, den in vector:
        common = lcm(common, den)
    return common
