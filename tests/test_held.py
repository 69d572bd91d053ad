"""[28]: which STANDS are HELD, and the papers of it."""

import copy
import random
from fractions import Fraction

from heldthrough.directions import inner
from heldthrough.errors import NoStand, TooMany
from heldthrough.fractions import vector_of
from heldthrough.held import held_paper, is_held_paper, place
from heldthrough.limits import greatest, no_stand
from heldthrough.safe import outsides
from tests.held_words import is_held_paper_by_words, looked_at, place_by_words
from tests.makers import boxed, made_ruled_book, made_stand, shown, told
from tests.test_limits import NONE
from tests.test_safe import ADDED, CELLS, PLANE, crowded, wide
from tests.timed import TimedCase
from tests.values import ANY_VALUES, others

LIMITS = (("<=", (1, 1), 10), ("<=", (-1, 0), 0), ("<=", (0, -1), 0))
BOOK = (PLANE, LIMITS)
LINKED = ((("a", "b"), (("a", "b"),), (), "strict"), LIMITS)
EQUAL = (PLANE, (("=", (1, 1), 4), ("<=", (1, 0), 3)))
DRIFTING = boxed(((("a", "b", "c"), (("a",), ("b",), ("c",)), (), "usual"), (("=", (2, 2, 2), 4),)), 3)
LOOSE = (ADDED, (("<=", (1, 0), 2), ("<=", (0, 1), 2)))


class Place(TimedCase):
    def test_ordinary(self):
        for book, stands in (
            (BOOK, {(5, 5): "inside", (9, 9): "inside", (0, 0): "rim", (10, 10): "rim", (10, 3): "rim", (11, 0): "out", (-1, 0): "out", (5, -1): "out"}),
            (LINKED, {(1, 1): "inside", (5, 5): "rim", (9, 9): "out", (0, 3): "rim", (-1, 0): "out"}),
            (EQUAL, {(2, 2): "inside", (3, 1): "rim", (4, 0): "out", (2, 1): "out", (-9, 13): "inside"}),
            (LOOSE, {(1, 1): "inside", (2, 1): "rim", (1, 99): "inside", (3, 0): "out"}),
            (DRIFTING, {(1, 1, 0): "inside", (2, 2, 2): "inside", (3, 2, 2): "rim", (3, 3, -3): "rim", (-3, -3, -3): "rim", (4, -2, 0): "out"}),
            ((PLANE, ()), {(0, 0): "inside", (10 ** 9, -5): "inside"}),
            (boxed((PLANE, ()), 0), {(0, 0): "inside", (0, 1): "out"}),
        ):
            for numbers, found in stands.items():
                self.assertEqual(place(book, vector_of(numbers)), found, (book, numbers))

    def test_fractions(self):
        self.assertEqual(place(EQUAL, ((5, 2), (3, 2))), "inside")
        self.assertEqual(place(EQUAL, ((5, 2), (1, 2))), "out")
        self.assertEqual(place(BOOK, ((1, 10 ** 39), (1, 10 ** 39))), "inside")
        self.assertEqual(place(BOOK, ((-1, 10 ** 39), (1, 10 ** 39))), "out")

    def test_by_chance(self):
        seen = {"inside": 0, "rim": 0, "out": 0}
        for seed in range(250):
            draw = random.Random(seed)
            book = made_ruled_book(draw, draw.randint(1, 4))
            looked = looked_at(book)
            if looked is None:
                continue
            spaces, changes = looked
            before = copy.deepcopy(book)
            for stand in (inner(book), made_stand(draw, book[0]), self.toward(draw, book), self.edge(draw, book)):
                point = [told(number) for number in stand]
                found, paper = place(book, stand), held_paper(book, stand)
                seen[found] += 1
                self.assertEqual(found, place_by_words(self, book, spaces, point))
                self.assertEqual(paper[0], "out" if found == "out" else "held")
                self.assertTrue(is_held_paper_by_words(book, spaces, changes, stand, paper))
                self.assertIs(is_held_paper(book, stand, paper), True)
                self.assertEqual((book, place(book, stand), held_paper(book, stand)), (before, found, paper))
            self.assertEqual(place(book, inner(book)), "inside")
        self.assertGreater(min(seen.values()), 30)

    def edge(self, draw, book):
        """Return a GOOD STAND at which some READING of one cell or two is greatest, if it has a greatest VALUE."""
        found = greatest(book, tuple(draw.choice((0, 0, 1, -1)) for _ in book[0][0]))
        return found[2] if found[0] == "at" else found[1]

    def toward(self, draw, book):
        """Return a STAND at a few whole steps from an INNER one."""
        return tuple(shown(told(number) + draw.choice((0, 0, 1, -1, Fraction(1, 2)))) for number in inner(book))


class Papers(TimedCase):
    def test_held(self):
        self.assertEqual(held_paper(LINKED, vector_of((5, 5))), ("held", (vector_of((5, 5)),)))
        found = held_paper(BOOK, vector_of((10, 10)))
        self.assertEqual(found, ("held", (vector_of((10, 0)), vector_of((0, 10)))))
        self.assertEqual(outsides(BOOK), (((0, 1),), ((1, 0),)))

    def test_out(self):
        word, shares = held_paper(BOOK, vector_of((11, 0)))
        self.assertEqual(word, "out")
        self.assertIs(is_held_paper(BOOK, vector_of((11, 0)), ("out", shares)), True)
        self.assertIs(is_held_paper(BOOK, vector_of((10, 0)), ("out", shares)), False)

    def test_judge(self):
        near = ((10, 1), (10, 1))
        for book, stand, thing, found in (
            (BOOK, near, ("held", (vector_of((10, 0)), vector_of((0, 10)))), True), (BOOK, near, ("held", (vector_of((0, 10)), vector_of((10, 0)))), False),
            (BOOK, near, ("held", (vector_of((10, -1)), vector_of((0, 10)))), False), (BOOK, near, ("held", (vector_of((9, 0)), vector_of((0, 10)))), False),
            (BOOK, near, ("held", [vector_of((10, 0)), vector_of((0, 10))]), False), (BOOK, near, ("held", (vector_of((10, 0)),)), False), (BOOK, near, ("held", ()), False),
            (BOOK, near, ["held", (vector_of((10, 0)), vector_of((0, 10)))], False), (BOOK, near, ("held", ((10, 0), (0, 10))), False), (BOOK, near, ("out", ((1, 1), (0, 1), (0, 1))), False),
            (BOOK, ((11, 1), (0, 1)), ("out", ((1, 1), (0, 1), (1, 1))), True), (BOOK, ((11, 1), (0, 1)), ("out", ((1, 1), (0, 1), (0, 1))), False),
            (BOOK, ((11, 1), (0, 1)), ("out", ((2, 3), (0, 1), (2, 3))), True), (BOOK, ((11, 1), (0, 1)), ("out", ((1, 1), (0, 1), (2, 1))), False),
            (BOOK, ((11, 1), (0, 1)), ("out", ((1, 1), (-1, 1), (1, 1))), False), (BOOK, ((11, 1), (0, 1)), ("out", ((0, 1), (0, 1), (0, 1))), False),
            (BOOK, ((0, 1), (-1, 1)), ("out", ((0, 1), (0, 1), (1, 5))), True), (BOOK, ((10, 1), (0, 1)), ("out", ((1, 1), (0, 1), (1, 1))), False),
            (EQUAL, ((2, 1), (1, 1)), ("out", ((-1, 1), (0, 1))), True), (EQUAL, ((2, 1), (1, 1)), ("out", ((1, 1), (0, 1))), False), (EQUAL, ((2, 1), (3, 1)), ("out", ((1, 1), (0, 1))), True),
        ):
            self.assertIs(is_held_paper(book, stand, thing), found, thing)

    def test_one_item_otherwise(self):
        right = 0
        for book in (BOOK, LINKED, EQUAL, DRIFTING, LOOSE):
            spaces, changes = looked_at(book)
            for numbers in ((10, 10, 0), (11, 0, 2), (3, 1, 3), (2, 7, 1)):
                stand = vector_of(numbers[:len(book[0][0])])
                for thing in others(held_paper(book, stand)):
                    found = is_held_paper_by_words(book, spaces, changes, stand, thing)
                    self.assertIs(is_held_paper(book, stand, thing), found, thing)
                    right += found
        self.assertGreater(right, 10)

    def test_any_value(self):
        for thing in ANY_VALUES:
            for book in (BOOK, LOOSE):
                spaces, changes = looked_at(book)
                for more in (thing, (thing,), ("held", thing), ("out", thing), ("held", (thing,)), ("held", (thing, thing)), ("out", (thing,) * len(book[1])), (thing, ())):
                    for stand in (vector_of((1, 1)), vector_of((11, 0))):
                        self.assertIs(is_held_paper(book, stand, more), is_held_paper_by_words(book, spaces, changes, stand, more))


class Errors(TimedCase):
    def test_no_stand(self):
        for book in NONE:
            for call in (place, held_paper):
                with self.assertRaises(NoStand) as caught:
                    call(book, vector_of((0, 0)))
                self.assertEqual(caught.exception.paper, no_stand(book))

    def test_too_many(self):
        for book, most in ((crowded(), 400), (wide(), 40)):
            many = len(book[0][0])
            for call in (place, held_paper):
                found = self.quick(call, book, ((0, 1),) * many)
                self.assertIsInstance(found, TooMany)
                self.assertEqual(found.most, most)
                bare = (book[0], book[1] + (("=", (0,) * many, 1),))
                self.assertIsInstance(self.quick(call, bare, ((0, 1),) * many), NoStand)

    def test_forty_are_not_too_many(self):
        frame = wide()[0]
        book = (tuple(frame[0][:40]), tuple((cell,) for cell in frame[0][:40]), (), "strict")
        self.assertEqual(self.quick(place, (book, ()), ((1, 1),) * 40), "inside")

    def test_at_the_bounds(self):
        for size in (3, 10 ** 40 - 1):
            for seed in range(6):
                draw = random.Random(seed)
                frame = (CELLS, tuple((cell,) for cell in CELLS), (), draw.choice(("usual", "strict")))
                if seed % 2:
                    frame = (CELLS, (CELLS[:3], CELLS[3:4], CELLS[4:6]), CELLS[6:], frame[3])
                rules = tuple(("<=", tuple(draw.randint(-size, size) for _ in CELLS), draw.randint(0, size)) for _ in range(15))
                book = (frame, rules + (("=" if seed % 3 else "<=", tuple(draw.randint(-size, size) for _ in CELLS), 0),))
                for stand in (((0, 1),) * 8, tuple((draw.randint(-size, size) * 2 + 1, 2) for _ in CELLS)):
                    found, paper = self.quick(place, book, stand), self.quick(held_paper, book, stand)
                    self.assertEqual(found == "out", paper[0] == "out")
                    self.assertIs(self.quick(is_held_paper, book, stand, paper), True)
