"""[24] and [8]: LEAST CHANGES and CONFORMAL SUMS."""

import copy
import random
from fractions import Fraction

from heldthrough.leastchanges import conformal, is_conformal, is_least_change, least_changes
from heldthrough.spaces import space_of, upright
from tests.linear import is_in, least_changes_by_words, rank, whole
from tests.makers import shown, told
from tests.timed import TimedCase
from tests.values import ANY_VALUES, others
from tests.words import is_fraction_by_words

EXCHANGES = ((1, 0, -1), (0, 1, -1))


def made_space(draw, many, size=2):
    """Return a SPACE of any number of members."""
    vectors = [tuple(draw.choice((0, draw.randint(-size, size))) for _ in range(many)) for _ in range(draw.randint(0, many))]
    return space_of(vectors, many)


def made_vector(draw, space, many):
    """Return a VECTOR in a SPACE."""
    shares = [Fraction(draw.randint(-3, 3), draw.randint(1, 3)) for _ in space]
    return tuple(shown(sum((share * row[k] for share, row in zip(shares, space)), Fraction(0))) for k in range(many))


def is_least_by_words(changes, thing):
    """Tell whether a value is one of some LEAST CHANGES, told as tuples of integers."""
    return type(thing) is tuple and all(type(number) is int for number in thing) and thing in changes


def is_conformal_by_words(space, vector, thing):
    """Tell whether a value is a CONFORMAL SUM."""
    many = len(vector)
    changes = least_changes_by_words(space, many)
    if type(thing) is not tuple or len(thing) > len(space) or any(type(term) is not tuple or len(term) != 2 for term in thing):
        return False
    if not all(is_least_by_words(changes, least) and is_fraction_by_words(share) and share[0] for least, share in thing):
        return False
    if any(one[0] >= other[0] for one, other in zip(thing, thing[1:])):
        return False
    parts = [[number * told(share) for number in least] for least, share in thing]
    goal = [told(number) for number in vector]
    if any(number and number * to <= 0 for part in parts for number, to in zip(part, goal)):
        return False
    return [sum((part[k] for part in parts), Fraction(0)) for k in range(many)] == goal


class LeastChanges(TimedCase):
    def test_ordinary(self):
        for space, many, found in (
            ((), 3, ()), (((1,),), 1, ((1,),)), (((1, 2),), 2, ((1, 2),)), (((1, 0), (0, 1)), 2, ((0, 1), (1, 0))), (EXCHANGES, 3, ((0, 1, -1), (1, -1, 0), (1, 0, -1))),
            (((1, 0, 2), (0, 1, 3)), 3, ((0, 1, 3), (1, 0, 2), (3, -2, 0))), (((2, 0, -1), (0, 2, 1)), 3, ((0, 2, 1), (1, 1, 0), (2, 0, -1))), (((0, 1, 0),), 3, ((0, 1, 0),)),
            (((1, 1, 0), (0, 0, 1)), 3, ((0, 0, 1), (1, 1, 0))), (((3, 0, 2), (0, 2, 3)), 3, ((0, 2, 3), (3, 0, 2), (9, -4, 0))),
        ):
            self.assertEqual(least_changes(space, many), found)
            for change in found:
                self.assertIs(is_least_change(space, many, change), True)

    def test_none_is_missing_and_none_is_twice(self):
        for seed in range(300):
            draw = random.Random(seed)
            many = draw.randint(1, 5)
            space = made_space(draw, many)
            before = copy.deepcopy(space)
            found = least_changes(space, many)
            self.assertEqual(found, least_changes_by_words(space, many))
            self.assertEqual(len(set(found)), len(found))
            self.assertEqual(space, before)
            self.assertEqual(rank(found), len(space))

    def test_judge(self):
        for thing, found in (
            ((0, 1, -1), True), ((1, -1, 0), True), ((1, 0, -1), True), ((-1, 1, 0), False), ((2, -2, 0), False), ((1, 1, -2), False), ((0, 0, 0), False), ([1, -1, 0], False),
            ((1, -1), False), ((1, -1, 0, 0), False), ((1, 0, 0), False), ((True, -1, 0), False), ((1, -1, False), False), (((1, 1), (-1, 1), (0, 1)), False),
        ):
            self.assertIs(is_least_change(EXCHANGES, 3, thing), found, thing)
        for space in (EXCHANGES, (), ((1, 0, 2), (0, 1, 3)), ((1, 0, 0), (0, 1, 0), (0, 0, 1))):
            changes = least_changes_by_words(space, 3)
            for thing in ANY_VALUES:
                for more in (thing, (thing,) * 3, (1, thing, 0), (0, 0, thing)):
                    self.assertIs(is_least_change(space, 3, more), is_least_by_words(changes, more), more)
            for change in (*changes, (1, 0, -1)):
                for thing in others(change):
                    self.assertIs(is_least_change(space, 3, thing), is_least_by_words(changes, thing), thing)

    def test_judge_by_chance(self):
        seen = {True: 0, False: 0}
        for seed in range(200):
            draw = random.Random(seed)
            many = draw.randint(1, 5)
            space = made_space(draw, many, 1)
            changes = least_changes_by_words(space, many)
            for _ in range(10):
                thing = tuple(draw.choice((0, 0, 1, -1, 2)) for _ in range(many))
                self.assertIs(is_least_change(space, many, thing), thing in changes)
                seen[thing in changes] += 1
        self.assertGreater(min(seen.values()), 50)

    def test_at_the_bounds(self):
        for size in (1, 9, 10 ** 40 - 1):
            for members in range(1, 9):
                draw = random.Random(members)
                space = upright(space_of([tuple(draw.randint(-size, size) for _ in range(8)) for _ in range(8 - members)], 8), 8)
                found = self.quick(least_changes, space, 8)
                self.assertTrue(all(is_least_change(space, 8, change) for change in found))
                if size > 9:
                    self.assertEqual(len(found), (8, 28, 56, 70, 56, 28, 8, 1)[8 - members] if members < 8 else 8)
                vector = made_vector(draw, space, 8)
                self.assertIs(is_conformal(space, vector, self.quick(conformal, space, vector)), True)


class Conformal(TimedCase):
    def test_ordinary(self):
        self.assertEqual(conformal(EXCHANGES, ((1, 1), (-1, 1), (0, 1))), (((1, -1, 0), (1, 1)),))
        self.assertEqual(conformal(EXCHANGES, ((0, 1),) * 3), ())
        self.assertEqual(conformal((), ((0, 1),) * 2), ())
        self.assertEqual(conformal(EXCHANGES, ((1, 2), (1, 3), (-5, 6))), (((0, 1, -1), (1, 3)), ((1, 0, -1), (1, 2))))
        self.assertEqual(conformal(((1, 0), (0, 1)), ((-3, 2), (5, 1))), (((0, 1), (5, 1)), ((1, 0), (-3, 2))))
        self.assertIs(is_conformal((), ((0, 1),) * 2, ()), True)
        self.assertIs(is_conformal(EXCHANGES, ((1, 1), (-1, 1), (0, 1)), ()), False)

    def test_forged(self):
        vector = ((-2, 1), (1, 2), (3, 2))
        right = conformal(EXCHANGES, vector)
        self.assertEqual(right, (((1, -1, 0), (-1, 2)), ((1, 0, -1), (-3, 2))))
        for thing, found in (
            (right, True), (right[::-1], False), (list(right), False), ([*right], False), (right[:1], False), (right + right[1:], False), ((right[0], list(right[1])), False),
            ((((-1, 1, 0), (1, 2)), right[1]), False), ((((2, -2, 0), (-1, 4)), right[1]), False), ((((1, 1, -2), (1, 2)), ((1, 0, -1), (-5, 2))), False),
            ((((0, 1, -1), (0, 1)), *right), False), ((((0, 1, -1), (1, 2)), ((1, 0, -1), (-2, 1))), False), ((((1, -1, 0), (-2, 4)), right[1]), False),
            ((((1, -1, 0), (-1, 4)), ((1, -1, 0), (-1, 4)), right[1]), False), ((right[0], right[1] + (0,)), False), ((((0, 1, -1), (-3, 2)), ((1, -1, 0), (-2, 1))), False),
        ):
            self.assertIs(is_conformal(EXCHANGES, vector, thing), found, thing)
            self.assertIs(is_conformal_by_words(EXCHANGES, vector, thing), found, thing)
        self.assertIs(is_conformal(EXCHANGES, ((1, 1), (-1, 1), (0, 1)), (((1, -1, 0), (1, 1)), ((1, 0, -1), (0, 1)))), False)
        self.assertIs(is_conformal(EXCHANGES, ((0, 1),) * 3, (((1, 0, -1), (0, 1)),)), False)

    def test_no_more_parts_than_members(self):
        square = ((1, 0, 0, -1), (0, 1, 0, -1), (0, 0, 1, -1))
        vector = ((1, 1), (1, 1), (-1, 1), (-1, 1))
        four = (((0, 1, -1, 0), (1, 2)), ((0, 1, 0, -1), (1, 2)), ((1, 0, -1, 0), (1, 2)), ((1, 0, 0, -1), (1, 2)))
        self.assertIs(is_conformal(square, vector, four), False)
        for two in (four[::3], four[1:3]):
            self.assertIs(is_conformal(square, vector, tuple((least, (1, 1)) for least, share in two)), True)
        self.assertLessEqual(len(conformal(square, vector)), 3)

    def test_any_value(self):
        vector = ((-2, 1), (1, 2), (3, 2))
        for thing in ANY_VALUES:
            for more in (thing, (thing,), ((thing, (1, 2)),), (((1, -1, 0), thing), ((1, 0, -1), (-3, 2))), (thing, ((1, 0, -1), (-3, 2)))):
                self.assertIs(is_conformal(EXCHANGES, vector, more), False)
            self.assertIs(is_conformal(EXCHANGES, ((0, 1),) * 3, thing), thing == () and type(thing) is tuple)

    def test_one_item_otherwise(self):
        for seed in range(12):
            draw = random.Random(seed)
            space = made_space(draw, 3)
            vector = made_vector(draw, space, 3)
            for thing in others(conformal(space, vector)):
                self.assertIs(is_conformal(space, vector, thing), is_conformal_by_words(space, vector, thing), thing)

    def test_by_chance(self):
        sizes = {}
        for seed in range(300):
            draw = random.Random(seed)
            many = draw.randint(1, 6)
            space = made_space(draw, many)
            vector = made_vector(draw, space, many)
            before = copy.deepcopy((space, vector))
            found = conformal(space, vector)
            sizes[len(found)] = True
            self.assertTrue(is_conformal_by_words(space, vector, found))
            self.assertIs(is_conformal(space, vector, found), True)
            self.assertEqual(((space, vector), conformal(space, vector)), (before, found))
            self.assertTrue(all(is_in(space, least) and whole(least) == least for least, share in found))
        self.assertGreater(len(sizes), 4)
