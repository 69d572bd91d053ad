"""Linear sets, SPACES and what hangs on them, as the document defines them, in Python's own Fractions, without haste."""

import itertools
from fractions import Fraction
from math import gcd

from heldthrough.programs import solved


def reduced(rows):
    """Return the rows, not 0, of the reduced row echelon form, with 1 as first numbers."""
    rows, done = [[Fraction(number) for number in row] for row in rows], []
    while rows:
        firsts = [next((place for place, number in enumerate(row) if number), None) for row in rows]
        rows = [row for row, first in zip(rows, firsts) if first is not None]
        if not rows:
            break
        first = min(first for first in firsts if first is not None)
        at = next(k for k, row in enumerate(rows) if row[first])
        lead = [number / rows[at][first] for number in rows[at]]
        free = [[number - row[first] * other for number, other in zip(row, lead)] for k, row in enumerate(rows) if k != at]
        done = [[number - row[first] * other for number, other in zip(row, lead)] for row in done] + [lead]
        rows = free
    return done


def rank(rows):
    """Return how many members a basis has."""
    return len(reduced(rows))


def whole(row):
    """Return the shortest WHOLE VECTOR that is a multiple, above 0, of a row."""
    common = 1
    for number in row:
        common = common * Fraction(number).denominator // gcd(common, Fraction(number).denominator)
    numbers = [int(number * common) for number in row]
    divisor = gcd(*numbers)
    return tuple(number // divisor for number in numbers)


def space_by_words(rows):
    """Return the SPACE that rows span."""
    return tuple(whole(row) for row in reduced(rows))


def is_in(rows, vector):
    """Tell whether a vector is in the span."""
    return rank([*rows, vector]) == rank(rows)


def null_by_words(rows, many):
    """Return a basis of the vectors whose products with all rows add up to 0."""
    lead = reduced(rows)
    firsts = [next(place for place, number in enumerate(row) if number) for row in lead]
    found = []
    for free in range(many):
        if free not in firsts:
            vector = [Fraction(0)] * many
            vector[free] = Fraction(1)
            for first, row in zip(firsts, lead):
                vector[first] = -row[free]
            found.append(vector)
    return found


def mix(shares, rows, many):
    """Return the sum of the rows, each multiplied by its share."""
    return [sum((share * row[place] for share, row in zip(shares, rows)), Fraction(0)) for place in range(many)]


def within_by_words(rows, places, many):
    """Return vectors that span those in the span of the rows that move cells at these places alone."""
    barred = [[row[place] for row in rows] for place in range(many) if place not in places]
    return [mix(shares, rows, many) for shares in null_by_words(barred, len(rows))] if rows else []


def places_by_words(frame):
    """Return the list of the sets of places of the groups."""
    at = {cell: place for place, cell in enumerate(frame[0])}
    return [{at[cell] for cell in group} for group in frame[1]]


def touched_by_words(frame, vector):
    """Return the set of the indexes of the groups that a vector touches."""
    return {index for index, places in enumerate(places_by_words(frame)) if any(vector[place] for place in places)}


def agreeing_by_words(frame, rows):
    """Return vectors that span all COMMON PARTS: for all ways to part the groups in both, mine, and yours."""
    many, groups, found = len(frame[0]), places_by_words(frame), []
    if frame[3] == "strict" or not rows:
        return []
    for kinds in itertools.product(range(3), repeat=len(groups)):
        both, mine, yours = [{place for kind, places in zip(kinds, groups) if kind == told for place in places} for told in range(3)]
        bars = [[row[place] for row in rows] + [0] * len(rows) for place in yours]
        bars += [[0] * len(rows) + [row[place] for row in rows] for place in mine]
        bars += [[row[place] for row in rows] + [-row[place] for row in rows] for place in both]
        for shares in null_by_words(bars, 2 * len(rows)):
            one = mix(shares[:len(rows)], rows, many)
            found.append([number if place in both else Fraction(0) for place, number in enumerate(one)])
    return reduced(found)


def drift_by_words(frame, rows):
    """Return vectors that span the least closed set with all rows."""
    while True:
        fresh = reduced([*rows, *agreeing_by_words(frame, rows)])
        if len(fresh) == rank(rows):
            return fresh
        rows = fresh


def directions_by_words(book):
    """Return vectors that span the DIRECTIONS of a BOOK that has a GOOD STAND."""
    frame, rules = book
    exact = []
    for sign, reading, bound in rules:
        found = solved(rules, tuple(-number for number in reading))
        if found[0] == "at" and Fraction(*found[1]) == -bound:
            exact.append(reading)
    return null_by_words(exact, len(frame[0]))


def least_changes_by_words(rows, many):
    """Return the ascending tuple of the LEAST CHANGES of the span."""
    found = []
    for size in range(1, many + 1):
        for places in itertools.combinations(range(many), size):
            inside = reduced(within_by_words(rows, places, many))
            if len(inside) == 1 and all(inside[0][place] for place in places):
                found.append(whole(inside[0]))
    return tuple(sorted(found))


def do_cross(frame, one, other):
    """Tell whether two vectors touch a common group."""
    return bool(touched_by_words(frame, one) & touched_by_words(frame, other))


def families_by_words(frame, changes):
    """Return the ascending tuple of all FAMILIES, by a look at all tuples of indexes."""
    many = range(len(changes))
    good = []
    for size in range(len(changes) + 1):
        for family in itertools.combinations(many, size):
            if all(do_cross(frame, changes[i], changes[j]) for i in family for j in family):
                good.append(set(family))
    return tuple(sorted(tuple(sorted(one)) for one in good if not any(one < other for other in good)))


def outsides_by_words(book):
    """Return the ascending tuple of the least OUTSIDES of a BOOK, None if it has too many LEAST CHANGES to look at."""
    frame = book[0]
    changes = least_changes_by_words(drift_by_words(frame, directions_by_words(book)), len(frame[0]))
    if len(changes) > 11:
        return None
    found = []
    for family in families_by_words(frame, changes):
        found.append(space_by_words([change for index, change in enumerate(changes) if index not in family]))
    least = {one for one in found if not any(other != one and all(is_in(one, row) for row in other) for other in found)}
    return tuple(sorted(least))
