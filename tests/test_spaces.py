"""[22]: SPACES."""

import copy
import random
from fractions import Fraction

from heldthrough.fractions import vector_of
from heldthrough.spaces import cleared, cut, has, is_space, joined, space_of, upright, within
from tests.linear import is_in, null_by_words, reduced, space_by_words, whole, within_by_words
from tests.makers import shown
from tests.timed import TimedCase
from tests.values import ANY_VALUES, others


def all_of(many):
    """Return the SPACE of all VECTORS."""
    return tuple(tuple(int(k == place) for k in range(many)) for place in range(many))


def made_vectors(draw, many, size=3):
    """Return a list of WHOLE VECTORS, some of them sums of others."""
    vectors = [tuple(draw.choice((0, draw.randint(-size, size))) for _ in range(many)) for _ in range(draw.randint(0, many))]
    if vectors and draw.random() < 0.5:
        vectors.append(tuple(2 * one - 3 * other for one, other in zip(draw.choice(vectors), draw.choice(vectors))))
    return vectors


def is_space_by_words(many, thing):
    """Tell whether a value is a SPACE."""
    if type(thing) is not tuple or any(type(row) is not tuple or len(row) != many for row in thing):
        return False
    if any(type(number) is not int for row in thing for number in row):
        return False
    return thing == space_by_words(thing)


class Cleared(TimedCase):
    def test_ordinary(self):
        for vector, found in (
            (((1, 2), (-2, 3)), (3, -4)), (((0, 1), (0, 1)), (0, 0)), (((2, 1), (4, 1)), (2, 4)), (((-1, 6), (1, 4), (0, 1)), (-2, 3, 0)), (((-5, 1),), (-5,)),
            (((2, 3), (4, 3)), (2, 4)), (((1, 10 ** 40 - 1), (1, 1)), (1, 10 ** 40 - 1)), (((3, 4), (-1, 2)), (3, -2)),
        ):
            self.assertEqual(cleared(vector), found)

    def test_by_chance(self):
        for seed in range(200):
            draw = random.Random(seed)
            numbers = [Fraction(draw.randint(-9, 9), draw.randint(1, 9)) for _ in range(draw.randint(1, 6))]
            least = next(k for k in range(1, 10 ** 6) if all((k * number).denominator == 1 for number in numbers))
            self.assertEqual(cleared(tuple(shown(number) for number in numbers)), tuple(int(least * number) for number in numbers))


class Spaces(TimedCase):
    def test_space_of(self):
        for vectors, many, found in (
            ([], 1, ()), ([(0,)], 1, ()), ([(-4,)], 1, ((1,),)), ([(0, 0), (0, 0)], 2, ()), ([(2, 4), (1, 2), (-3, -6)], 2, ((1, 2),)), ([(0, -2), (3, 3)], 2, ((1, 0), (0, 1))),
            ([(2, 3, 5), (4, 6, 11)], 3, ((2, 3, 0), (0, 0, 1))), ([(0, 2, 4), (0, 3, 7)], 3, ((0, 1, 0), (0, 0, 1))), ([(1, 1, 1), (1, 2, 4)], 3, ((1, 0, -2), (0, 1, 3))),
            ([(6, 0, 4), (0, 4, 6)], 3, ((3, 0, 2), (0, 2, 3))),
        ):
            self.assertEqual(space_of(vectors, many), found)
            self.assertEqual(space_of(tuple(vectors), many), found)
            self.assertEqual(space_of(vectors[::-1], many), found)

    def test_any_order_and_multiples(self):
        for seed in range(200):
            draw = random.Random(seed)
            many = draw.randint(1, 6)
            vectors = made_vectors(draw, many)
            found = space_of(vectors, many)
            self.assertEqual(found, space_by_words(vectors))
            self.assertTrue(is_space(many, found))
            times = [draw.choice((-3, 2, 5)) for _ in vectors]
            self.assertEqual(space_of([tuple(one * number for number in row) for one, row in zip(times, vectors)], many), found)
            draw.shuffle(vectors)
            before = copy.deepcopy(vectors)
            self.assertEqual(space_of(vectors, many), found)
            self.assertEqual(space_of(tuple(vectors), many), found)
            self.assertEqual(vectors, before)
            self.assertEqual(space_of(found, many), found)

    def test_is_space(self):
        for many, thing, found in (
            (2, (), True), (1, ((1,),), True), (2, ((1, 2),), True), (2, ((2, 4),), False), (2, ((-1, 2),), False), (2, ((0, 0),), False), (2, ((1, 0), (0, 1)), True),
            (2, ((0, 1), (1, 0)), False), (2, ((1, 1), (0, 1)), False), (2, ((1, 0), (1, 0)), False), (3, ((1, 0, -1), (0, 1, 2)), True), (3, ((1, 0, -1), (0, 2, 4)), False),
            (3, ((1, 2, 0), (0, 0, 1)), True), (3, ((3, 0, 2), (0, 2, 3)), True), (3, ((1, 2),), False), (2, [(1, 2)], False), (2, ([1, 2],), False), (2, ((True, 2),), False),
            (2, ((1, False),), False), (2, ((0, -1),), False), (2, ((2, 1),), True), (2, ((1, 0), (0, 1), (0, 0)), False), (3, ((1, 0, 0), (0, 1, 1), (0, 0, 1)), False),
        ):
            self.assertIs(is_space(many, thing), found, thing)

    def test_is_space_of_any_value(self):
        for thing in ANY_VALUES:
            for more in (thing, (thing,), ((1, thing),), ((1, 0), thing), ((thing, 0), (0, 1))):
                self.assertIs(is_space(2, more), is_space_by_words(2, more))
        right = 0
        for space in ((), ((1, 0, -1), (0, 1, 2)), ((3, 0, 2), (0, 2, 3)), all_of(3), ((0, 2, 5),)):
            for thing in others(space):
                found = is_space_by_words(3, thing)
                self.assertIs(is_space(3, thing), found, thing)
                right += found
        self.assertGreater(right, 20)

    def test_has(self):
        for seed in range(200):
            draw = random.Random(seed)
            many = draw.randint(1, 5)
            space = space_of(made_vectors(draw, many), many)
            shares = [Fraction(draw.randint(-3, 3), draw.randint(1, 3)) for _ in space]
            inside = [sum((share * row[k] for share, row in zip(shares, space)), Fraction(0)) for k in range(many)]
            self.assertIs(has(space, tuple(shown(number) for number in inside)), True)
            vector = [Fraction(draw.randint(-1, 1), draw.randint(1, 2)) for _ in range(many)]
            self.assertIs(has(space, tuple(shown(number) for number in vector)), is_in(space, vector))
        self.assertIs(has((), ((0, 1), (0, 1))), True)
        self.assertIs(has((), ((0, 1), (1, 9))), False)
        self.assertIs(has(all_of(2), ((5, 7), (-1, 9))), True)

    def test_joined_and_cut(self):
        for seed in range(200):
            draw = random.Random(seed)
            many = draw.randint(1, 5)
            one, other = [space_of(made_vectors(draw, many), many) for _ in range(2)]
            before = copy.deepcopy((one, other))
            both, common = joined(one, other, many), cut(one, other, many)
            self.assertEqual(both, space_by_words([*one, *other]))
            self.assertTrue(is_space(many, common))
            self.assertEqual(len(both) + len(common), len(one) + len(other))
            self.assertTrue(all(is_in(one, row) and is_in(other, row) for row in common))
            self.assertEqual((one, other), before)
            self.assertEqual((joined(other, one, many), cut(other, one, many)), (both, common))
            self.assertEqual((joined(one, (), many), cut(one, (), many)), (one, ()))
            self.assertEqual((joined(one, all_of(many), many), cut(one, all_of(many), many)), (all_of(many), one))

    def test_upright(self):
        for many in range(1, 6):
            self.assertEqual(upright((), many), all_of(many))
            self.assertEqual(upright(all_of(many), many), ())
        self.assertEqual(upright(((1, 0, -1), (0, 1, 2)), 3), ((1, -2, 1),))
        self.assertEqual(upright(((2, 3),), 2), ((3, -2),))
        for seed in range(200):
            draw = random.Random(seed)
            many = draw.randint(1, 6)
            space = space_of(made_vectors(draw, many), many)
            found = upright(space, many)
            self.assertEqual(found, space_by_words(null_by_words(space, many)))
            self.assertTrue(all(sum(one * other for one, other in zip(row, old)) == 0 for row in found for old in space))
            self.assertEqual(upright(found, many), space)

    def test_within(self):
        self.assertEqual(within(((1, 0, -1), (0, 1, -1)), (0, 1, 2), 3), ((1, 0, -1), (0, 1, -1)))
        self.assertEqual(within(((1, 0, -1), (0, 1, -1)), (0,), 3), ())
        self.assertEqual(within(((1, 0, -1), (0, 1, -1)), (), 3), ())
        self.assertEqual(within(all_of(3), (0, 2), 3), ((1, 0, 0), (0, 0, 1)))
        for seed in range(300):
            draw = random.Random(seed)
            many = draw.randint(1, 6)
            space = space_of(made_vectors(draw, many), many)
            places = tuple(place for place in range(many) if draw.random() < 0.6)
            found = within(space, places, many)
            self.assertTrue(is_space(many, found))
            self.assertEqual(found, space_by_words(within_by_words(space, places, many)))

    def test_great_numbers(self):
        draw, great = random.Random(0), 10 ** 40 - 1
        vectors = [tuple(draw.randint(-great, great) for _ in range(8)) for _ in range(5)]
        space = self.quick(space_of, vectors, 8)
        self.assertEqual(space, tuple(whole(row) for row in reduced(vectors)))
        for row in self.quick(upright, space, 8):
            self.assertTrue(all(sum(one * other for one, other in zip(row, old)) == 0 for old in vectors))
        self.assertEqual(self.quick(cut, space, upright(space, 8), 8), ())
        self.assertEqual(len(self.quick(within, space, (0, 1, 2, 3, 4), 8)), 2)
        self.assertTrue(all(has(space, vector_of(row)) for row in vectors))
