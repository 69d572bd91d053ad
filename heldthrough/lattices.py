"""Lattices: WHOLE VECTORS that are sums of some others multiplied by integers, reckoned with by remainders.

Each lattice in here has all multiples of some integer, the modulus, in each place, so numbers can be kept
below it.
"""


def bezout(one, other):
    """Return a tuple (common, share, rest): the greatest divisor of integers, and by what they add up to it."""
    old, new = (one, 1, 0), (other, 0, 1)
    while new[0] != 0:
        times = old[0] // new[0]
        old, new = new, tuple([number - times * less for number, less in zip(old, new)])
    return old if old[0] >= 0 else tuple([-number for number in old])


def mixed(one, other, numbers):
    """Return a tuple of two WHOLE VECTORS that have the same sums by integers as two others have.

    By each of them goes a number, not both 0: that by the first one comes to be their greatest divisor, and is
    returned ahead; that by the second one comes to be 0.
    """
    common, share, rest = bezout(numbers[0], numbers[1])
    first = [share * mine + rest * yours for mine, yours in zip(one, other)]
    down, up = numbers[1] // common, numbers[0] // common
    return (common, first, [up * yours - down * mine for mine, yours in zip(one, other)])


def remainders(numbers, modulus):
    """Return the list of the remainders of integers."""
    return [number % modulus for number in numbers]


def levelled(vectors, values, modulus):
    """Return a list of WHOLE VECTORS, of which all sums of some are that have a value that the modulus divides.

    By each of the vectors goes its value.
    """
    found = []
    lead, most = [0] * len(vectors[0]), modulus
    for vector, number in zip(vectors, values):
        most, lead, level = mixed(lead, vector, (most, number))
        lead = remainders(lead, modulus)
        found.append(remainders(level, modulus))
    return found


def hermite(vectors, many, modulus):
    """Return the list of the rows of the lattice of WHOLE VECTORS of many numbers: its Hermite normal form."""
    rows = []
    for place in range(many):
        lead, left = [0] * many, []
        lead[place] = modulus
        for vector in vectors:
            common, lead, rest = mixed(lead, vector, (lead[place], vector[place]))
            lead, rest = remainders(lead, modulus), remainders(rest, modulus)
            # The divisor may be the modulus itself.
            lead[place] = common
            left.append(rest)
        vectors = left
        rows = [less_of(row, lead, row[place] // common) for row in rows] + [lead]
    return rows


def less_of(row, other, times):
    """Return a WHOLE VECTOR less another one multiplied by an integer."""
    return [number - times * less for number, less in zip(row, other)]
