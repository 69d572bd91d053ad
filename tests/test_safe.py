"""[27]: least OUTSIDES, and what is SAFE."""

import copy
import random
from fractions import Fraction

from heldthrough.errors import NoStand, TooMany
from heldthrough.frames import with_way
from heldthrough.limits import no_stand
from heldthrough.safe import is_safe, outsides, unsafe_pair
from heldthrough.spaces import space_of, upright
from tests.held_words import changes_by_words, unsafe_by_words
from tests.linear import outsides_by_words
from tests.makers import made_ruled_book, shown
from tests.test_crossing import named, singles
from tests.test_limits import NONE
from tests.timed import TimedCase
from tests.words import dot

CELLS = tuple("abcdefgh")
PLANE = (("a", "b"), (("a",), ("b",)), (), "strict")
ADDED = (("a", "b"), (("a",),), ("b",), "usual")


def crowded(bound=0):
    """Return a BOOK with more than 400 FAMILIES: three equations of eight cells that leave each four of them a LEAST CHANGE."""
    readings = [tuple(k ** power for k in range(1, 9)) for power in range(3)]
    return (singles(CELLS), tuple(("=", reading, bound) for reading in readings))


def wide():
    """Return a BOOK with 41 FAMILIES, whose OUTSIDES are all least."""
    return (singles(named(41)), ())


class Safe(TimedCase):
    def test_outsides(self):
        limits = (("<=", (1, 1), 10), ("<=", (-1, 0), 0), ("<=", (0, -1), 0))
        for book, found in (
            ((PLANE, limits), (((0, 1),), ((1, 0),))), ((PLANE, ()), (((0, 1),), ((1, 0),))), ((with_way(PLANE, "usual"), ()), (((0, 1),), ((1, 0),))),
            ((PLANE, (("=", (1, 1), 1),)), ((),)), ((with_way(PLANE, "usual"), (("=", (1, 1), 1),)), ((),)), ((PLANE, (("=", (1, 0), 1),)), ((),)), ((PLANE, (("=", (1, 0), 1), ("=", (0, 1), 1))), ((),)),
            ((ADDED, ()), (((0, 1),),)), ((ADDED, (("=", (1, 1), 0),)), (((0, 1),),)), ((with_way(ADDED, "strict"), (("=", (1, 1), 0),)), ((),)), ((ADDED, (("=", (1, 0), 0),)), (((0, 1),),)),
            (((("a", "b"), (), ("a", "b"), "usual"), ()), (((1, 0), (0, 1)),)), (((("a", "b"), (("a", "b"),), (), "usual"), ()), ((),)),
        ):
            self.assertEqual(outsides(book), found, book)

    def test_sums_of_four(self):
        """Six exchanges of two of four cells: a FAMILY for each cell has the less OUTSIDE, one for each three cells has all."""
        frame = singles("abcd")
        book = (frame, (("=", (1, 1, 1, 1), 0),))
        self.assertEqual(outsides(book), (((0, 1, 0, -1), (0, 0, 1, -1)), ((1, 0, -1, 0), (0, 1, -1, 0)), ((1, 0, 0, -1), (0, 0, 1, -1)), ((1, 0, 0, -1), (0, 1, 0, -1))))

    def test_is_safe(self):
        book = (PLANE, (("<=", (1, 1), 10),))
        for reading, pair in (((1, 0), None), ((0, -3), None), ((0, 0), None), ((1, 1), ((0, 1), (1, 0))), ((-2, 5), ((0, 1), (1, 0)))):
            for given in (reading, tuple((number, 1) for number in reading), tuple(shown(Fraction(number, 7)) for number in reading)):
                self.assertIs(is_safe(book, given), pair is None)
                self.assertEqual(unsafe_pair(book, given), pair)
        for reading, pair in (((1, 0), None), ((0, 1), ((0, 1), (0, 1))), ((1, 1), ((0, 1), (0, 1)))):
            self.assertIs(is_safe((ADDED, ()), reading), pair is None)
            self.assertEqual(unsafe_pair((ADDED, ()), reading), pair)
        exact = (PLANE, (("=", (1, 1), 3),))
        self.assertIs(is_safe(exact, (4, 5)), True)
        self.assertIs(is_safe((with_way(PLANE, "usual"), (("=", (1, 2), 3), ("=", (0, 1), 1))), (4, 5)), True)

    def test_by_chance(self):
        looked, safe = 0, {True: 0, False: 0}
        for seed in range(250):
            draw = random.Random(seed)
            book = made_ruled_book(draw, draw.randint(1, 4))
            before, spaces, changes = copy.deepcopy(book), outsides_by_words(book), changes_by_words(book)
            if spaces is None:
                continue
            looked += 1
            self.assertEqual(outsides(book), spaces)
            for _ in range(4):
                reading = tuple(draw.choice((0, 0, 1, draw.randint(-2, 2))) for _ in book[0][0])
                share = draw.randint(1, 5)
                for given in (reading, tuple(shown(Fraction(number, share)) for number in reading)):
                    pairs = unsafe_by_words(book[0], changes, reading)
                    self.assertIs(is_safe(book, given), not pairs)
                    self.assertEqual(unsafe_pair(book, given), min(pairs, default=None))
                    self.assertIs(is_safe(book, given), any(all(dot(reading, row) == 0 for row in space) for space in spaces))
                safe[not pairs] += 1
            self.assertEqual((book, outsides(book)), (before, spaces))
        self.assertGreater(looked, 200)
        self.assertGreater(min(safe.values()), 100)

    def test_no_stand(self):
        for book in NONE:
            for call, more in ((outsides, ()), (is_safe, ((1, 1),)), (unsafe_pair, ((1, 1),))):
                with self.assertRaises(NoStand) as caught:
                    call(book, *more)
                self.assertEqual(caught.exception.paper, no_stand(book))

    def test_too_many(self):
        for call, more in ((outsides, ()), (is_safe, ((1,) * 8,)), (unsafe_pair, ((0,) * 8,)), (unsafe_pair, ((1,) + (0,) * 7,))):
            found = self.quick(call, crowded(), *more)
            self.assertIsInstance(found, TooMany)
            self.assertEqual(found.most, 400)
            frame, rules = crowded()
            self.assertIsInstance(self.quick(call, (frame, rules + (("=", (0,) * 8, 1),)), *more), NoStand)

    def test_more_than_forty(self):
        """This stage's bound of 40 least OUTSIDES is none for these functions."""
        book = wide()
        found = self.quick(outsides, book)
        self.assertEqual(len(found), 41)
        self.assertTrue(all(len(space) == 40 for space in found))
        self.assertIs(is_safe(book, (1,) + (0,) * 40), True)
        self.assertIs(is_safe(book, (1, 1) + (0,) * 39), False)
        self.assertIsInstance(unsafe_pair(book, (1, 1) + (0,) * 39), tuple)

    def test_at_the_bounds(self):
        for size in (1, 9, 10 ** 40 - 1):
            for equal in range(5):
                for way in ("usual", "strict"):
                    draw = random.Random(equal)
                    rules = tuple(("=", tuple(draw.randint(-size, size) for _ in CELLS), 0) for _ in range(equal))
                    rules += tuple(("<=", tuple(draw.randint(-size, size) for _ in CELLS), draw.randint(1, size)) for _ in range(16 - equal))
                    for groups in (tuple((cell,) for cell in CELLS), (CELLS[:2], CELLS[2:4], CELLS[4:6], CELLS[6:]), (CELLS[:1], CELLS[1:3], CELLS[3:7])):
                        grouped = {cell for group in groups for cell in group}
                        frame = (CELLS, groups, tuple(cell for cell in CELLS if cell not in grouped), way)
                        found = self.quick(outsides, (frame, rules))
                        if isinstance(found, TooMany):
                            self.assertEqual((found.most, way), (400, "strict"))
                        else:
                            flat = upright(space_of([rule[1] for rule in rules[:equal]], 8), 8)
                            self.assertTrue(way == "usual" or all(len(space) <= len(flat) for space in found))
