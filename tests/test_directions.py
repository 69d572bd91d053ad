"""[23]: DIRECTIONS, INNER STANDS and equations."""

import copy
import random

from heldthrough.directions import directions, equations, exact_rules, inner, is_inner
from heldthrough.errors import NoStand
from heldthrough.fractions import vector_of
from heldthrough.limits import greatest, no_stand
from heldthrough.spaces import upright
from tests.linear import directions_by_words, is_in, space_by_words
from tests.makers import boxed, good, made_ruled_book, made_stand, told
from tests.test_limits import NONE
from tests.timed import TimedCase
from tests.values import ANY_VALUES, others
from tests.words import dot, fractions_by_words

FRAME = (("a", "b", "c"), (("a",), ("b", "c")), (), "usual")
FREE = (FRAME, ())
# Two limits that leave one number, three that do so together, an equation, and one with room.
MET = (FRAME, (("<=", (1, 0, 0), 2), ("<=", (-1, 0, 0), -2), ("<=", (0, 1, 1), 5), ("<=", (0, 1, -1), 1)))
TURN = (FRAME, (("<=", (1, 1, 0), 0), ("<=", (-1, 0, 0), 0), ("<=", (0, -1, 0), 0), ("<=", (0, 0, 1), 7), ("<=", (1, 0, 0), 3)))
NOUGHTS = (FRAME, (("<=", (0, 0, 0), 0), ("<=", (0, 0, 0), 1), ("=", (0, 0, 0), 0)))
POINT = boxed(FREE, 0)


def is_inner_by_words(book, thing):
    """Tell whether a value is an INNER STAND of a BOOK with GOOD STANDS."""
    point = fractions_by_words(thing, len(book[0][0]))
    if point is None or not good(book, thing):
        return False
    exact = exact_by_words(book)
    return all(index in exact or dot(reading, point) < bound for index, (sign, reading, bound) in enumerate(book[1]))


def exact_by_words(book):
    """Return the tuple of the indexes of the RULES that are met exactly at all GOOD STANDS."""
    found = [greatest(book, tuple(-number for number in reading)) for sign, reading, bound in book[1]]
    return tuple(index for index, one in enumerate(found) if one[0] == "at" and told(one[1]) == -book[1][index][2])


class Directions(TimedCase):
    def test_exact_rules(self):
        for book, found in ((FREE, ()), (MET, (0, 1)), (TURN, (0, 1, 2)), (NOUGHTS, (0, 2)), (POINT, (0, 1, 2, 3, 4, 5)), ((FRAME, (("=", (1, 2, 3), 4),)), (0,)),
                            ((FRAME, (("=", (1, 2, 3), 4), ("<=", (1, 2, 3), 4), ("<=", (1, 2, 3), 5), ("<=", (-2, -4, -6), -8))), (0, 1, 3))):
            self.assertEqual(exact_rules(book), found)

    def test_directions(self):
        for book, found in ((FREE, ((1, 0, 0), (0, 1, 0), (0, 0, 1))), (MET, ((0, 1, 0), (0, 0, 1))), (TURN, ((0, 0, 1),)), (NOUGHTS, ((1, 0, 0), (0, 1, 0), (0, 0, 1))), (POINT, ()),
                            ((FRAME, (("=", (2, 1, 0), 4),)), ((1, -2, 0), (0, 0, 1)))):
            self.assertEqual(directions(book), found)

    def test_equations(self):
        self.assertEqual(equations(FREE), ())
        self.assertEqual(equations(MET), (((1, 0, 0), (2, 1)),))
        self.assertEqual(equations(TURN), (((1, 0, 0), (0, 1)), ((0, 1, 0), (0, 1))))
        self.assertEqual(equations((FRAME, (("=", (2, 4, 6), 5),))), (((1, 2, 3), (5, 2)),))
        self.assertEqual(equations(NOUGHTS), ())

    def test_inner(self):
        for book in (FREE, MET, TURN, NOUGHTS, POINT):
            stand = inner(book)
            self.assertTrue(is_inner_by_words(book, stand))
            self.assertIs(is_inner(book, stand), True)
        self.assertIs(is_inner(MET, vector_of((2, 3, 3))), False)
        self.assertIs(is_inner(MET, vector_of((2, 3, 2))), False)
        self.assertIs(is_inner(MET, vector_of((2, 2, 2))), True)
        self.assertIs(is_inner(MET, vector_of((1, 2, 2))), False)
        self.assertIs(is_inner(TURN, vector_of((0, 0, 6))), True)
        self.assertIs(is_inner(TURN, vector_of((0, 0, 7))), False)
        self.assertIs(is_inner(POINT, vector_of((0, 0, 0))), True)

    def test_no_stand(self):
        for book in NONE:
            for call in (exact_rules, inner, directions, equations):
                with self.assertRaises(NoStand) as caught:
                    call(book)
                self.assertEqual(caught.exception.paper, no_stand(book))
            for thing in (((0, 1), (0, 1)), (0, 0), None, (), ((1, 1), (1, 1))):
                self.assertIs(is_inner(book, thing), False)

    def test_judge(self):
        for thing in ANY_VALUES:
            for more in (thing, (thing,) * 3, ((2, 1), thing, (0, 1)), ((2, 1), (0, 1), (thing, 1))):
                for book in (MET, FREE, POINT):
                    self.assertIs(is_inner(book, more), is_inner_by_words(book, more))
        right = 0
        for book in (FREE, MET, TURN, POINT):
            for thing in others(inner(book)):
                found = is_inner_by_words(book, thing)
                self.assertIs(is_inner(book, thing), found, thing)
                right += found
        self.assertGreater(right, 20)

    def test_by_chance(self):
        seen = {True: 0, False: 0}
        for seed in range(400):
            draw = random.Random(seed)
            book = made_ruled_book(draw)
            before, many = copy.deepcopy(book), len(book[0][0])
            exact, space, stand, equal = exact_rules(book), directions(book), inner(book), equations(book)
            self.assertEqual(exact, exact_by_words(book))
            self.assertEqual(space, space_by_words(directions_by_words(book)))
            self.assertTrue(is_inner_by_words(book, stand))
            self.assertEqual([member for member, value in equal], list(upright(space, many)))
            point = [told(number) for number in stand]
            self.assertTrue(all(told(value) == dot(member, point) for member, value in equal))
            self.assertTrue(all(is_in(upright(space, many), book[1][index][1]) for index in exact))
            other = made_stand(draw, book[0])
            found = is_inner_by_words(book, other)
            self.assertIs(is_inner(book, other), found)
            seen[found] += 1
            self.assertEqual(book, before)
            self.assertEqual((exact_rules(book), directions(book), inner(book), equations(book)), (exact, space, stand, equal))
        self.assertGreater(min(seen.values()), 30)

    def test_at_the_bounds(self):
        cells = tuple("abcdefgh")
        frame = (cells, tuple((cell,) for cell in cells), (), "strict")
        for size in (9, 10 ** 40 - 1):
            for seed in range(4):
                draw = random.Random(seed)
                readings = [tuple(draw.randint(-size, size) for _ in cells) for _ in range(15)]
                rules = [("<=", reading, draw.randint(0, 1)) for reading in readings] + [("=", tuple(draw.randint(-size, size) for _ in cells), 0)]
                book = (frame, tuple(rules))
                self.assertIs(is_inner(book, self.quick(inner, book)), True)
                self.assertEqual(self.quick(directions, book), space_by_words(directions_by_words(book)))
