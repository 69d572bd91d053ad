"""[40]: LATTICES, and BOOKS that whole numbers break."""

import copy
import itertools
import random
from fractions import Fraction
from math import gcd

from heldthrough.books import scaled
from heldthrough.directions import directions, equations
from heldthrough.errors import Nothing, NoStand
from heldthrough.frames import with_way
from heldthrough.heldlimits import survives
from heldthrough.histories import first_broken, is_history, stands_of
from heldthrough.limits import no_stand
from heldthrough.spaces import space_of
from heldthrough.wholes import from_scale, in_lattice, lattice, whole_break, whole_step
from tests.linear import is_in
from tests.makers import boxed, made_ruled_book, told
from tests.test_crossing import singles
from tests.test_held import BOOK, DRIFTING, EQUAL, LOOSE
from tests.test_leastchanges import made_space
from tests.test_limits import NONE
from tests.test_safe import CELLS, PLANE, crowded
from tests.timed import TimedCase
from tests.values import ANY_VALUES
from tests.words import dot

FLAT = (PLANE[:3] + ("usual",), (("<=", (2, 2), 3), ("<=", (-1, 0), 0), ("<=", (0, -1), 0)))


def first_place(row):
    """Return the place of the first number that is not 0."""
    return next(place for place, number in enumerate(row) if number)


def minors(rows, many):
    """Return the greatest divisor of all determinants of as many columns as there are rows."""
    total = 0
    for places in itertools.combinations(range(many), len(rows)):
        matrix, found = [[Fraction(row[place]) for place in places] for row in rows], Fraction(1)
        while matrix:
            at = next((k for k, row in enumerate(matrix) if row[0]), None)
            if at is None:
                found = Fraction(0)
                break
            lead = matrix.pop(at)
            found *= lead[0]
            matrix = [[number - row[0] / lead[0] * other for number, other in zip(row, lead)][1:] for row in matrix]
        total = gcd(total, int(found))
    return total


def is_lattice_by_words(space, many, rows):
    """Tell whether rows are the LATTICE of a SPACE: echelon, reduced, in the SPACE, and with all its WHOLE VECTORS."""
    if len(rows) != len(space) or not all(type(row) is tuple and len(row) == many and all(type(number) is int for number in row) for row in rows):
        return False
    places = [first_place(row) for row in rows]
    if places != sorted(set(places)) or not all(row[place] > 0 for row, place in zip(rows, places)):
        return False
    if not all(0 <= rows[ahead][place] < row[place] for at, (row, place) in enumerate(zip(rows, places)) for ahead in range(at)):
        return False
    # Sums by integers are all WHOLE VECTORS of the span exactly if the determinants of the rows have no common divisor.
    return all(is_in(space, row) for row in rows) and (rows == () or minors(rows, many) == 1)


class Lattices(TimedCase):
    def test_ordinary(self):
        for space, many, found in (
            (((2, 0, -1), (0, 2, -1)), 3, ((1, 1, -1), (0, 2, -1))), ((), 3, ()), (((1, 0), (0, 1)), 2, ((1, 0), (0, 1))), (((2, 3),), 2, ((2, 3),)), (((3, 0, 1), (0, 3, 1)), 3, ((1, 2, 1), (0, 3, 1))), (((3, 0, 1), (0, 3, 2)), 3, ((1, 1, 1), (0, 3, 2))), (((0, 5, 1),), 3, ((0, 5, 1),)), (((6, 0, 1), (0, 10, 1)), 3, ((3, 5, 1), (0, 10, 1))),
        ):
            self.assertEqual(lattice(space, many), found)
            self.assertTrue(is_lattice_by_words(space, many, found))

    def test_by_chance(self):
        several = 0
        for seed in range(400):
            draw = random.Random(seed)
            many = draw.randint(1, 6)
            space = made_space(draw, many) if seed % 2 else space_of([tuple(draw.randint(-9, 9) for _ in range(many)) for _ in range(draw.randint(0, many))], many)
            before = copy.deepcopy(space)
            found = lattice(space, many)
            self.assertTrue(is_lattice_by_words(space, many, found), (space, found))
            self.assertEqual((space, lattice(space, many)), (before, found))
            several += found != space
            for _ in range(3):
                shares = tuple(draw.randint(-5, 5) for _ in found)
                vector = tuple(sum(share * row[k] for share, row in zip(shares, found)) for k in range(many))
                self.assertEqual(in_lattice(found, many, vector), shares)
                other = tuple(number + draw.choice((0, 0, 1)) for number in vector)
                self.assertIs(in_lattice(found, many, other) is None, not is_in(space, other))
        self.assertGreater(several, 40)

    def test_all_whole_vectors(self):
        """Each WHOLE VECTOR of small numbers in a SPACE is told by its integers."""
        for space, many in ((((2, 0, -1), (0, 2, -1)), 3), (((6, 0, 1), (0, 10, 1)), 3), (((3, 0, 2, 1), (0, 3, 1, 1)), 4), (((5, 7),), 2)):
            found = lattice(space, many)
            for vector in itertools.product(range(-6, 7), repeat=many):
                shares = in_lattice(found, many, vector)
                self.assertIs(shares is not None, is_in(space, vector))
                if shares is not None:
                    self.assertEqual(tuple(sum(share * row[k] for share, row in zip(shares, found)) for k in range(many)), vector)

    def test_in_lattice_of_any_value(self):
        rows = ((1, 1, -1), (0, 2, -1))
        for thing in ANY_VALUES:
            found = in_lattice(rows, 3, thing)
            self.assertEqual(found, (0, 0) if type(thing) is tuple and thing == (0, 0, 0) and all(type(number) is int for number in thing) else None)
            self.assertIs(in_lattice((), 3, thing) == (), found is not None)
        for thing in ([1, 1, -1], (1, 1, True), (1, 1), (1, 1, -1, 0), ((1, 1), (1, 1), (-1, 1)), (1, 0, 0), (1, 1, 0), "abc", (None,) * 3):
            self.assertIsNone(in_lattice(rows, 3, thing))
        self.assertEqual([in_lattice(rows, 3, vector) for vector in ((1, -1, 0), (0, -4, 2), (7, 7, -7))], [(1, -1), (0, -2), (7, 0)])

    def test_at_the_bounds(self):
        for size in (9, 10 ** 40 - 1):
            for members in range(1, 9):
                draw = random.Random(members)
                space = space_of([tuple(draw.randint(-size, size) for _ in CELLS) for _ in range(members)], 8)
                found = self.quick(lattice, space, 8)
                self.assertEqual(len(found), members)
                shares = tuple(draw.randint(-size, size) for _ in found)
                vector = tuple(sum(share * row[k] for share, row in zip(shares, found)) for k in range(8))
                self.assertEqual(self.quick(in_lattice, found, 8, vector), shares)
                if size == 9:
                    self.assertTrue(is_lattice_by_words(space, 8, found))


class Steps(TimedCase):
    def test_ordinary(self):
        frame = PLANE
        for rules, step in (
            ((), 1), ((("<=", (3, 5), 7),), 1), ((("=", (2, 4), 3),), 2), ((("=", (2, 4), 6),), 1), ((("=", (3, 6), 1),), 3), ((("=", (2, 0), 1), ("=", (0, 3), 1)), 6), ((("=", (2, 0), 1), ("=", (0, 6), 1)), 6), ((("=", (4, 0), 1), ("=", (0, 6), 1)), 12),
            ((("=", (1, 1), 0), ("=", (1, -1), 1)), 2), ((("<=", (2, 4), 3), ("<=", (-2, -4), -3)), 2), ((("=", (6, 10), 1),), 2), ((("=", (6, 10), 15),), 2), ((("=", (0, 0), 0),), 1),
        ):
            self.assertEqual(whole_step((frame, rules)), step, rules)

    def test_by_chance(self):
        """A WHOLE STAND keeps the equations of the BOOK scaled by step, and none those scaled by less: by a look at remainders."""
        steps = {}
        for seed in range(300):
            draw = random.Random(seed)
            many = draw.randint(1, 3)
            cells = CELLS[:many]
            rules = tuple(("=", tuple(draw.randint(-4, 4) for _ in cells), draw.randint(-4, 4)) for _ in range(draw.randint(1, 2)))
            book = (singles(cells), rules)
            if no_stand(book) is not None:
                continue
            before, found = copy.deepcopy(book), whole_step(book)
            steps[found] = steps.get(found, 0) + 1
            for k in range(1, min(found, 12) + 1):
                self.assertIs(self.has_whole_stand(scaled(book, k)), k % found == 0, (book, k))
            self.assertEqual((book, whole_step(book)), (before, found))
        self.assertGreater(len(steps), 4)

    def has_whole_stand(self, book):
        """Tell whether some WHOLE STAND keeps all equations: by remainders modulo the determinants of the readings."""
        told_ = equations(book)
        if not all(told(value).denominator == 1 for _, value in told_):
            return False
        if not told_:
            return True
        # Solvable in integers exactly if the determinants with the values among the columns have no greater common divisor.
        rows = [list(reading) + [int(told(value))] for reading, value in told_]
        many = len(book[0][0])
        return minors([row[:many] for row in rows], many) == minors(rows, many + 1)


class Breaks(TimedCase):
    def check(self, book, ks=None):
        """Check what is told of a BOOK; return (step, scale), None if it survives."""
        before, found = copy.deepcopy(book), from_scale(book)
        if found is None:
            for k in (1, 2, 60):
                with self.assertRaises(Nothing):
                    whole_break(book, k)
            return None
        step, scale = found
        self.assertEqual(step, whole_step(book))
        self.assertEqual((scale > 0, scale % step), (True, 0))
        for k in ks or (scale, scale + step, scale + 2 * step, 7 * scale + 5 * step, 1000 * scale):
            self.check_history(scaled(book, k), whole_break(book, k))
        for k in (scale - step, 0, -step, -scale, *[scale + more for more in (1, step - 1) if more % step]):
            with self.assertRaises(Nothing):
                whole_break(book, k)
        self.assertEqual((book, from_scale(book), whole_break(book, scale)), (before, found, whole_break(book, scale)))
        return found

    def check_history(self, book, history):
        """Check that a value is a HISTORY of four DEEDS of WHOLE STANDS whose last one is not GOOD."""
        self.assertTrue(is_history(book, history))
        self.assertEqual([deed[:2] if deed[0] == "edit" else deed[0] for deed in history[:3]], ["first", ("edit", 0), ("edit", 0)])
        self.assertEqual((len(history), history[3]), (4, ("merge", 1, 2, 0)))
        self.assertEqual({den for stand in stands_of(book, history) for _, den in stand}, {1})
        self.assertEqual(first_broken(book, history), 3)

    def test_ordinary(self):
        for book, step in ((FLAT, 1), (BOOK, 1), (LOOSE, 1), (DRIFTING, 1), ((PLANE[:3] + ("usual",), (("<=", (1, 0), 3),)), None), (EQUAL, None), ((singles("abc", "usual"), (("=", (2, 4, 6), 3),)), 2), ((singles("abc"), (("=", (2, 4, 6), 3), ("<=", (1, 1, 0), 1))), None),
                           ((singles("abcd"), (("=", (2, 4, 6, 8), 3), ("<=", (1, 3, 0, 0), 1))), 2)):
            found = self.check(book)
            self.assertEqual(found and found[0], step, book)

    def test_limits_that_whole_numbers_keep(self):
        """As long as 1 more is too much for both a and b, whole numbers break nothing; from the scale on they do."""
        half = (PLANE, (("<=", (2, 2), 1), ("<=", (-1, 0), 0), ("<=", (0, -1), 0)))
        step, scale = self.check(half)
        self.assertEqual(step, 1)
        self.assertGreater(scale, 1)
        far = (PLANE, (("<=", (1000, 1001), 1), ("<=", (-1, 0), 0), ("<=", (0, -1), 0)))
        self.assertGreater(self.check(far)[1], 1000)

    def test_equations_and_limits(self):
        """Four cells with a sum, of which no half is whole; limits; in both ways."""
        for way in ("usual", "strict"):
            book = boxed((singles("abcd", way), (("=", (2, 2, 2, 2), 3), ("<=", (3, 5, 0, 0), 4))), 2)
            self.assertEqual(self.check(book)[0], 2)
            book = boxed((singles("abcd", way), (("=", (2, 4, 6, 9), 1), ("<=", (3, 5, 7, 0), 4), ("<=", (6, 10, 14, 0), 8))), 2)
            self.assertIsNotNone(self.check(book))

    def test_by_chance(self):
        seen = {"survives": 0, "equal": 0, "limit": 0, "step": 0}
        for seed in range(300):
            draw = random.Random(seed)
            book = made_ruled_book(draw, draw.randint(1, 4))
            if draw.random() < 0.5:
                book = boxed(book, draw.randint(1, 4))
            if draw.random() < 0.4:
                book = (book[0], book[1] + (("=", tuple(2 * number for number in (draw.randint(-2, 2) for _ in book[0][0])), draw.choice((1, 3, -1))),))
            if no_stand(book) is not None:
                continue
            found = self.check(book)
            self.assertIs(found is None, survives(book))
            if found is None:
                seen["survives"] += 1
                continue
            stand = stands_of(scaled(book, found[1]), whole_break(book, found[1]))[3]
            flat = all(dot(reading, [told(number) for number in stand]) == told(value) * found[1] for reading, value in equations(book))
            seen["limit" if flat else "equal"] += 1
            seen["step"] += found[0] > 1
        self.assertGreater(min(seen.values()), 12)

    def test_no_stand(self):
        for book in NONE:
            for call, more in ((whole_step, ()), (from_scale, ()), (whole_break, (1,)), (whole_break, (0,)), (whole_break, (-3,))):
                with self.assertRaises(NoStand) as caught:
                    call(book, *more)
                self.assertEqual(caught.exception.paper, no_stand(book))

    def test_at_the_bounds(self):
        """No FAMILIES are asked for, so there is no TooMany where they are too many."""
        self.assertIsNone(self.quick(from_scale, crowded()))
        drifting = (with_way(crowded()[0], "usual"), crowded()[1])
        found = self.quick(from_scale, drifting)
        self.assertEqual(len(directions(drifting)), 5)
        self.check_history(scaled(drifting, found[1]), self.quick(whole_break, drifting, found[1]))
        for size in (3, 10 ** 40 - 1):
            for seed in range(8):
                draw = random.Random(seed)
                equal = tuple(("=", tuple(draw.randint(-size, size) for _ in CELLS), draw.randint(-size, size)) for _ in range(seed // 2))
                rules = equal + tuple(("<=", tuple(draw.randint(-size, size) for _ in CELLS), draw.randint(1, size)) for _ in range(12 - len(equal)))
                book = (singles(CELLS, "usual" if seed % 2 else "strict"), rules)
                if no_stand(book) is not None:
                    continue
                self.quick(whole_step, book)
                found = self.quick(from_scale, book)
                if found is not None:
                    k = found[1] + 3 * found[0]
                    self.check_history(scaled(book, k), self.quick(whole_break, book, k))
