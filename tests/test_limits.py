"""[21]: LIMITS by MULTIPLIERS, and greatest VALUES at GOOD STANDS."""

import copy
import random

from heldthrough.errors import NoStand
from heldthrough.limits import follows, greatest, is_greatest, is_multipliers, is_no_stand, limit_by, no_stand, some_stand
from tests.makers import boxed, good, made_frame, made_ruled_book, shown, told
from tests.timed import TimedCase
from tests.values import ANY_VALUES, others
from tests.words import dot, fractions_by_words, given_by_words, is_solved_by_words

FRAME = (("a", "b"), (("a",), ("b",)), (), "strict")
BOOK = (FRAME, (("<=", (1, 1), 10), ("<=", (-1, 0), 0), ("<=", (0, -1), 0)))
EQUAL = (FRAME, (("=", (1, 1), 4), ("<=", (1, -1), 2), ("=", (2, 2), 8)))
FREE = (FRAME, ())
IDLE = (FRAME, (("<=", (0, 0), 3), ("=", (0, 0), 0)))
NONE = (
    (FRAME, (("<=", (1, 1), 1), ("<=", (-1, 0), -2), ("<=", (0, -1), 0))),
    (FRAME, (("=", (1, 1), 1), ("=", (2, 2), 3))),
    (FRAME, (("=", (1, 0), 1), ("=", (0, 1), 1), ("=", (1, 1), 1))),
    (FRAME, (("<=", (0, 0), -1),)),
    (FRAME, (("=", (0, 0), 1),)),
    (FRAME, (("<=", (1, 0), 3), ("=", (0, 0), -2), ("<=", (0, 1), 3))),
)


def is_greatest_by_words(book, reading, thing):
    """Tell whether a value is one of the two answers of greatest."""
    return is_solved_by_words(book[1], reading, thing) and thing[0] != "none"


class Multipliers(TimedCase):
    def test_limit_by(self):
        self.assertEqual(limit_by(BOOK, ((1, 2), (3, 1), (0, 1))), (((-5, 2), (1, 2)), (5, 1)))
        self.assertEqual(limit_by(EQUAL, ((-1, 2), (1, 3), (1, 1))), (((11, 6), (7, 6)), (20, 3)))
        self.assertEqual(limit_by(FREE, ()), (((0, 1), (0, 1)), (0, 1)))
        self.assertEqual(limit_by(IDLE, ((5, 1), (-7, 2))), (((0, 1), (0, 1)), (15, 1)))

    def test_limit_by_chance(self):
        for seed in range(200):
            draw = random.Random(seed)
            book = made_ruled_book(draw)
            shares = tuple(shown(told((draw.randint(0, 5), draw.randint(1, 4)))) for _ in book[1])
            vector, bound = limit_by(book, shares)
            self.assertEqual([*map(told, vector), told(bound)], given_by_words(book[1], len(book[0][0]), shares))

    def test_is_multipliers(self):
        for thing, found in (
            (((1, 1), (0, 1), (1, 2)), True), (((0, 1),) * 3, True), (((-1, 1), (0, 1), (0, 1)), True), (((0, 1), (0, 1), (-1, 2)), True),
            (((0, 1), (-1, 1), (0, 1)), False), (((0, 1), (-1, 9), (0, 1)), False), (((0, 1),) * 2, False), (((0, 1),) * 4, False), ([(0, 1)] * 3, False),
            (((0, 1), (0, 2), (0, 1)), False), (((0, 1), (2, 4), (0, 1)), False), (((0, 1), [0, 1], (0, 1)), False), (((0, 1), (True, 1), (0, 1)), False), ((0, 0, 0), False),
        ):
            self.assertIs(is_multipliers(EQUAL, thing), found, thing)
        self.assertIs(is_multipliers(BOOK, ((-1, 1), (0, 1), (0, 1))), False)
        self.assertIs(is_multipliers(FREE, ()), True)
        self.assertIs(is_multipliers(FREE, ((0, 1),)), False)

    def test_any_value(self):
        for thing in ANY_VALUES:
            for more in (thing, (thing,) * 3, ((0, 1), thing, (0, 1)), ((1, 1), (1, 1), (thing, 1))):
                found = fractions_by_words(more, 3) is not None and given_by_words(EQUAL[1], 2, more) is not None
                self.assertIs(is_multipliers(EQUAL, more), found)
                self.assertIs(is_no_stand(EQUAL, more), False)
            self.assertIs(is_multipliers(FREE, thing), type(thing) is tuple and thing == ())


class Stands(TimedCase):
    def test_there_is_one(self):
        for book in (BOOK, EQUAL, FREE, IDLE, boxed(FREE, 0)):
            self.assertIsNone(no_stand(book))
            self.assertTrue(good(book, some_stand(book)))

    def test_there_is_none(self):
        for book in NONE:
            paper = no_stand(book)
            self.assertIsNone(some_stand(book))
            self.assertIs(is_no_stand(book, paper), True)
            given = given_by_words(book[1], 2, paper)
            self.assertEqual(given[:2], [0, 0])
            self.assertLess(given[2], 0)

    def test_judge(self):
        papers = 0
        for book in (*NONE, BOOK, IDLE):
            for thing in others(no_stand(book) or ()) + others(((1, 1), (1, 1), (1, 1))):
                given = given_by_words(book[1], 2, thing)
                found = given is not None and given[:2] == [0, 0] and given[2] < 0
                self.assertIs(is_no_stand(book, thing), found, thing)
                papers += found
        self.assertGreater(papers, 20)
        self.assertIs(is_no_stand(NONE[1], ((-2, 1), (1, 1))), False)
        self.assertIs(is_no_stand(NONE[1], ((2, 1), (-1, 1))), True)
        self.assertIs(is_no_stand(NONE[3], ((-1, 1),)), False)

    def test_by_chance(self):
        seen = {True: 0, False: 0}
        for seed in range(300):
            draw = random.Random(seed)
            frame = made_frame(draw)
            rules = tuple((draw.choice(("=", "<=", "<=")), tuple(draw.randint(-2, 2) for _ in frame[0]), draw.randint(-3, 3)) for _ in range(draw.randint(0, 6)))
            book = (frame, rules)
            before = copy.deepcopy(book)
            paper, stand = no_stand(book), some_stand(book)
            seen[stand is None] += 1
            self.assertEqual(paper is None, stand is not None)
            self.assertTrue(good(book, stand) if paper is None else is_no_stand(book, paper))
            self.assertEqual((book, no_stand(book), some_stand(book)), (before, paper, stand))
        self.assertGreater(min(seen.values()), 50)


class Greatest(TimedCase):
    def test_at(self):
        for book, reading, value in (
            (BOOK, (1, 0), (10, 1)), (BOOK, (1, 1), (10, 1)), (BOOK, (-1, 0), (0, 1)), (BOOK, (2, -1), (20, 1)), (BOOK, (0, 0), (0, 1)), (FREE, (0, 0), (0, 1)),
            (EQUAL, (1, 1), (4, 1)), (EQUAL, (-3, -3), (-12, 1)), (EQUAL, (1, 0), (3, 1)), (EQUAL, (0, -1), (-1, 1)), (IDLE, (0, 0), (0, 1)),
        ):
            found = greatest(book, reading)
            self.assertEqual(found[:2], ("at", value))
            self.assertTrue(is_greatest_by_words(book, reading, found))
            self.assertIs(is_greatest(book, reading, found), True)

    def test_endless(self):
        for book, reading in ((FREE, (1, 0)), (FREE, (0, -2)), (EQUAL, (-1, 0)), (EQUAL, (0, 1)), (IDLE, (1, 1)), ((FRAME, BOOK[1][1:]), (3, -1))):
            found = greatest(book, reading)
            self.assertEqual(found[0], "endless")
            self.assertTrue(is_greatest_by_words(book, reading, found))
            self.assertIs(is_greatest(book, reading, found), True)

    def test_no_stand(self):
        for book in NONE:
            for reading in ((0, 0), (1, 2), (-1, 0)):
                with self.assertRaises(NoStand) as caught:
                    greatest(book, reading)
                self.assertEqual(caught.exception.paper, no_stand(book))
                self.assertIs(is_greatest(book, reading, ("none", no_stand(book))), False)
                self.assertIs(is_greatest(book, reading, ("at", (0, 1), ((0, 1), (0, 1)), no_stand(book))), False)

    def test_judge(self):
        right = 0
        for book, reading in ((BOOK, (1, 0)), (EQUAL, (1, 0)), (EQUAL, (-1, 0)), (FREE, (0, 0)), (FREE, (2, 1)), (IDLE, (0, 0)), (NONE[1], (1, 1))):
            paper = greatest(book, reading) if no_stand(book) is None else ("none", no_stand(book))
            for thing in others(paper):
                found = is_greatest_by_words(book, reading, thing)
                self.assertIs(is_greatest(book, reading, thing), found, thing)
                right += found
        self.assertGreater(right, 10)

    def test_any_value(self):
        for thing in ANY_VALUES:
            for more in (thing, (thing,), ("at", thing, ((10, 1), (0, 1)), ((1, 1), (0, 1), (1, 1))), ("at", (10, 1), thing, ((1, 1), (0, 1), (1, 1))),
                         ("at", (10, 1), ((10, 1), (0, 1)), thing), ("endless", thing, ((1, 1), (0, 1))), (thing, (10, 1), ((10, 1), (0, 1)), ((1, 1), (0, 1), (1, 1)))):
                self.assertIs(is_greatest(BOOK, (1, 0), more), is_greatest_by_words(BOOK, (1, 0), more))

    def test_by_chance(self):
        words = {"at": 0, "endless": 0}
        for seed in range(300):
            draw = random.Random(seed)
            book = made_ruled_book(draw)
            reading = tuple(draw.randint(-2, 2) for _ in book[0][0])
            before = copy.deepcopy((book, reading))
            found = greatest(book, reading)
            words[found[0]] += 1
            self.assertTrue(is_greatest_by_words(book, reading, found))
            self.assertIs(is_greatest(book, reading, found), True)
            self.assertEqual(((book, reading), greatest(book, reading)), (before, found))
        self.assertGreater(min(words.values()), 50)

    def test_at_the_bounds(self):
        cells = tuple("abcdefgh")
        frame = (cells, tuple((cell,) for cell in cells), (), "strict")
        for size in (9, 10 ** 40 - 1):
            for seed in range(5):
                draw = random.Random(seed)
                book = (frame, tuple(("<=", tuple(draw.randint(-size, size) for _ in cells), draw.randint(-size, size)) for _ in range(16)))
                found = self.quick(greatest, book, book[1][0][1])
                if isinstance(found, NoStand):
                    self.assertTrue(is_no_stand(book, found.paper))
                else:
                    self.assertTrue(is_greatest_by_words(book, book[1][0][1], found))


class Follows(TimedCase):
    def test_ordinary(self):
        for book, rule, found in (
            (BOOK, ("<=", (1, 0), 10), True), (BOOK, ("<=", (1, 0), 9), False), (BOOK, ("<=", (2, 1), 20), True), (BOOK, ("<=", (-1, 0), 0), True),
            (BOOK, ("=", (1, 1), 10), False), (BOOK, ("=", (0, 0), 0), True), (BOOK, ("=", (0, 0), 1), False), (BOOK, ("<=", (0, 0), 0), True), (BOOK, ("<=", (0, 0), -1), False),
            (EQUAL, ("=", (3, 3), 12), True), (EQUAL, ("=", (3, 3), 11), False), (EQUAL, ("=", (3, 3), 13), False), (EQUAL, ("<=", (1, 0), 3), True), (EQUAL, ("<=", (1, 0), 2), False),
            (EQUAL, ("=", (1, 0), 3), False), (EQUAL, ("<=", (-1, 0), 100), False), (FREE, ("<=", (1, 0), 100), False), (FREE, ("=", (1, 0), 0), False), (FREE, ("=", (0, 0), 0), True),
            (boxed(FREE, 0), ("=", (5, -7), 0), True),
        ):
            self.assertIs(follows(book, rule), found, (book, rule))

    def test_no_stand(self):
        for book in NONE:
            for rule in (("=", (0, 0), 1), ("<=", (1, 5), -100), ("=", (1, 1), 1)):
                self.assertIs(follows(book, rule), True)

    def test_half_bounds(self):
        book = (FRAME, (("<=", (2, 0), 3), ("<=", (-2, 0), -3)))
        self.assertIs(follows(book, ("=", (2, 0), 3)), True)
        self.assertIs(follows(book, ("<=", (1, 0), 2)), True)
        self.assertIs(follows(book, ("<=", (1, 0), 1)), False)
        self.assertIs(follows(book, ("=", (4, 0), 6)), True)

    def test_by_chance(self):
        seen = {True: 0, False: 0}
        for seed in range(300):
            draw = random.Random(seed)
            book = made_ruled_book(draw)
            reading = tuple(draw.randint(-1, 1) for _ in book[0][0])
            most, least = greatest(book, reading), greatest(book, tuple(-number for number in reading))
            bound = draw.randint(-3, 3) if most[0] == "endless" else int(told(most[1])) + draw.randint(-1, 1)
            high = most[0] == "at" and told(most[1]) <= bound
            low = least[0] == "at" and -told(least[1]) >= bound
            for sign, found in (("<=", high), ("=", high and low)):
                self.assertIs(follows(book, (sign, reading, bound)), found)
                seen[found] += 1
            self.assertLessEqual(dot(reading, [told(number) for number in some_stand(book)]), bound if high else 10 ** 9)
        self.assertGreater(min(seen.values()), 50)
