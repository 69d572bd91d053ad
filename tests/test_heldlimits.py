"""[29]: greatest VALUES at HELD STANDS, and which RULES hold."""

import copy
import random

from heldthrough.books import with_rule
from heldthrough.directions import inner
from heldthrough.errors import NoStand, TooMany
from heldthrough.fractions import vector_of
from heldthrough.heldlimits import Hull, greatest_held, holds, is_greatest_held, kept_rules, survives
from heldthrough.limits import follows, no_stand
from tests.held_words import is_greatest_held_by_words, looked_at
from tests.makers import boxed, made_great_rules, made_ruled_book, told
from tests.merge_words import do_all_merges_keep
from tests.test_held import BOOK, DRIFTING, EQUAL, LIMITS, LINKED, LOOSE
from tests.test_limits import NONE
from tests.test_safe import CELLS, PLANE, crowded, wide
from tests.timed import TimedCase
from tests.values import ANY_VALUES, others

FREE = (PLANE, ())
# Safe limits that are sums of RULES: a + b is held to 20, though no RULE says so of a or b alone.
SPARE = (PLANE, LIMITS + (("<=", (1, 1), 20), ("<=", (1, 1), 19), ("=", (0, 0), 0)))


class Greatest(TimedCase):
    def check(self, book, reading, found):
        """Check that a value is what greatest_held may return."""
        self.assertTrue(is_greatest_held_by_words(self, book, looked_at(book)[0], reading, found))
        self.assertIs(is_greatest_held(book, reading, found), True)

    def test_at(self):
        for book, reading, value in (
            (BOOK, (1, 1), (20, 1)), (BOOK, (1, 0), (10, 1)), (BOOK, (-1, -1), (0, 1)), (BOOK, (2, -3), (20, 1)), (BOOK, (0, 0), (0, 1)), (LINKED, (1, 1), (10, 1)), (EQUAL, (1, 1), (4, 1)),
            (EQUAL, (1, 0), (3, 1)), (EQUAL, (1, -1), (2, 1)), (LOOSE, (1, 0), (2, 1)), (FREE, (0, 0), (0, 1)), (DRIFTING, (1, 0, 0), (3, 1)), (DRIFTING, (1, 1, 1), (9, 1)), (DRIFTING, (1, -1, 0), (6, 1)),
            (DRIFTING, (-2, -2, -2), (18, 1)), (boxed(FREE, 0), (5, -7), (0, 1)), ((PLANE, (("<=", (2, 3), 7), ("<=", (-1, 0), 0), ("<=", (0, -1), 0))), (1, 1), (35, 6)),
        ):
            found = greatest_held(book, reading)
            self.assertEqual(found[:2], ("at", value), (book, reading))
            self.check(book, reading, found)

    def test_endless(self):
        for book, reading in ((FREE, (1, 0)), (LOOSE, (0, 1)), (LOOSE, (-1, 0)), (LOOSE, (1, 1)), (EQUAL, (-1, 0)), (EQUAL, (0, 1)), ((PLANE, (("<=", (1, 1), 3),)), (1, 1)),
                              ((DRIFTING[0], DRIFTING[1][:1]), (1, 1, 1)), ((DRIFTING[0], DRIFTING[1][:3]), (-1, -1, -1)), ((DRIFTING[0], DRIFTING[1][:3]), (1, 1, 0))):
            found = greatest_held(book, reading)
            self.assertEqual(found[0], "endless", (book, reading))
            self.check(book, reading, found)

    def test_terms(self):
        found = greatest_held(BOOK, (1, 1))
        self.assertEqual(found[3], (((1, 1), (0, 1), (1, 1)), ((1, 1), (1, 1), (0, 1))))
        self.assertEqual(greatest_held(EQUAL, (1, 1))[3], (((1, 1), (0, 1)),))

    def test_by_chance(self):
        words = {"at": 0, "endless": 0}
        for seed in range(300):
            draw = random.Random(seed)
            book = made_ruled_book(draw, draw.randint(1, 4))
            if draw.random() < 0.4:
                book = boxed(book, draw.randint(3, 6))
            if no_stand(book) is not None or looked_at(book) is None:
                continue
            reading = tuple(draw.randint(-2, 2) for _ in book[0][0])
            before = copy.deepcopy((book, reading))
            found = greatest_held(book, reading)
            words[found[0]] += 1
            self.check(book, reading, found)
            self.assertEqual(((book, reading), greatest_held(book, reading)), (before, found))
        self.assertGreater(min(words.values()), 60)

    def test_one_item_otherwise(self):
        right = 0
        for book, reading in ((BOOK, (1, 1)), (EQUAL, (1, 0)), (LOOSE, (0, 1)), (LOOSE, (1, 0)), (DRIFTING, (1, 1, 1)), (FREE, (0, 0)), (FREE, (1, -1))):
            spaces = looked_at(book)[0]
            for thing in others(greatest_held(book, reading)):
                found = is_greatest_held_by_words(self, book, spaces, reading, thing)
                self.assertIs(is_greatest_held(book, reading, thing), found, thing)
                right += found
        self.assertGreater(right, 10)

    def test_judge(self):
        terms = (((1, 1), (0, 1), (1, 1)), ((1, 1), (1, 1), (0, 1)))
        for book, reading, thing, found in (
            (BOOK, (1, 1), ("at", (20, 1), vector_of((10, 10)), terms), True), (BOOK, (1, 1), ("at", (20, 1), vector_of((10, 10)), terms[::-1]), False),
            (BOOK, (1, 1), ("at", (20, 1), vector_of((11, 9)), terms), False), (BOOK, (1, 1), ("at", (10, 1), vector_of((5, 5)), terms), False),
            (BOOK, (1, 1), ("at", (20, 1), vector_of((10, 10)), terms[:1]), False), (BOOK, (1, 1), ("at", (20, 1), vector_of((10, 10)), list(terms)), False),
            (BOOK, (1, 1), ("endless", vector_of((10, 10)), vector_of((1, 0))), False), (LOOSE, (0, 1), ("endless", vector_of((2, 9)), vector_of((0, 1))), True),
            (LOOSE, (0, 1), ("endless", vector_of((3, 9)), vector_of((0, 1))), False), (LOOSE, (0, 1), ("endless", vector_of((2, 9)), vector_of((1, 1))), False),
            (LOOSE, (0, 1), ("endless", vector_of((2, 9)), vector_of((-1, 1))), True), (LOOSE, (0, 1), ("endless", vector_of((2, 9)), vector_of((0, -1))), False),
            (LOOSE, (0, 1), ("endless", vector_of((2, 9)), vector_of((0, 0))), False), (LOOSE, (0, 1), ("endless", vector_of((2, 9)), (0, 1)), False),
            (FREE, (0, 0), ("at", (0, 1), vector_of((7, -7)), ((), ())), True), (FREE, (0, 0), ("at", (0, 1), vector_of((7, -7)), ((),)), False),
        ):
            self.assertIs(is_greatest_held(book, reading, thing), found, thing)

    def test_any_value(self):
        spaces, terms = looked_at(BOOK)[0], (((1, 1), (0, 1), (1, 1)), ((1, 1), (1, 1), (0, 1)))
        for thing in ANY_VALUES:
            for more in (thing, (thing,), ("at", thing, vector_of((10, 10)), terms), ("at", (20, 1), thing, terms), ("at", (20, 1), vector_of((10, 10)), thing),
                         ("at", (20, 1), vector_of((10, 10)), (thing, thing)), (thing, (20, 1), vector_of((10, 10)), terms), ("endless", thing, vector_of((1, 1))), ("endless", vector_of((1, 1)), thing)):
                self.assertIs(is_greatest_held(BOOK, (1, 1), more), is_greatest_held_by_words(self, BOOK, spaces, (1, 1), more))


class Holds(TimedCase):
    def test_ordinary(self):
        for book, rule, found in (
            (BOOK, ("<=", (1, 1), 20), True), (BOOK, ("<=", (1, 1), 19), False), (BOOK, ("<=", (1, 0), 10), True), (BOOK, ("<=", (1, 0), 9), False), (BOOK, ("=", (0, 0), 0), True),
            (BOOK, ("=", (0, 0), 1), False), (LINKED, ("<=", (1, 1), 10), True), (EQUAL, ("=", (1, 1), 4), True), (EQUAL, ("=", (2, 2), 8), True), (EQUAL, ("=", (1, 1), 5), False),
            (EQUAL, ("<=", (0, -1), -1), True), (EQUAL, ("=", (1, 0), 3), False), (DRIFTING, ("=", (2, 2, 2), 4), False), (DRIFTING, ("<=", (2, 2, 2), 18), True), (DRIFTING, ("<=", (2, 2, 2), 17), False),
            (DRIFTING, ("<=", (-2, -2, -2), 18), True), (FREE, ("<=", (1, 0), 5), False), (boxed(FREE, 0), ("=", (3, 5), 0), True), (LOOSE, ("<=", (0, 1), 2), False), (LOOSE, ("<=", (1, 0), 2), True),
        ):
            self.assertIs(holds(book, rule), found, (book, rule))

    def test_kept_rules(self):
        for book, kept in ((BOOK, (1, 2)), (LINKED, (0, 1, 2)), (EQUAL, (0, 1)), (DRIFTING, (1, 2, 3, 4, 5, 6)), (LOOSE, (0,)), (FREE, ()), (SPARE, (1, 2, 3, 5)), (boxed(FREE, 0), (0, 1, 2, 3)),
                           (boxed(BOOK, 5), (0, 1, 2, 3, 4, 5, 6)), (boxed(BOOK, 6), (1, 2, 3, 4, 5, 6))):
            self.assertEqual(kept_rules(book), kept, book)
            self.assertIs(survives(book), len(kept) == len(book[1]))

    def test_one_hull_for_many_readings(self):
        """What was found for one READING bars nothing that is HELD when another one is asked for."""
        hull = Hull((PLANE, (("<=", (1, 1), 10), ("<=", (0, -1), 0))))
        self.assertEqual([hull.most((1, 0))[:2], hull.most((-1, 0))[0], hull.most((0, -1))[:2], hull.most((1, -1))[:2]], [("at", (10, 1)), "endless", ("at", (0, 1)), ("at", (10, 1))])
        for seed in range(60):
            draw = random.Random(seed)
            book = boxed(made_ruled_book(draw, draw.randint(1, 4)), draw.randint(2, 5))
            if no_stand(book) is None:
                hull = Hull(book)
                for _ in range(6):
                    reading = tuple(draw.randint(-2, 2) for _ in book[0][0])
                    found, alone = hull.most(reading), greatest_held(book, reading)
                    self.assertEqual(found[:2] if found[0] == "at" else found[:1], alone[:2] if alone[0] == "at" else alone[:1])

    def test_by_chance(self):
        """RULES that survive, and RULES that a merge breaks: told by [6] as well, by programs of three GOOD STANDS and their MERGE."""
        seen, kept_seen = {True: 0, False: 0}, {True: 0, False: 0}
        for seed in range(250):
            draw = random.Random(seed)
            book = made_ruled_book(draw, draw.randint(1, 5))
            before = copy.deepcopy(book)
            found, kept = survives(book), kept_rules(book)
            self.assertIs(found, do_all_merges_keep(book))
            self.assertIs(found, kept == tuple(range(len(book[1]))))
            seen[found] += 1
            for index, rule in enumerate(book[1]):
                self.assertIs(holds(book, rule), index in kept)
                kept_seen[index in kept] += 1
            reading = tuple(draw.randint(-1, 1) for _ in book[0][0])
            most = greatest_held(book, reading)
            if most[0] == "at":
                bound = int(told(most[1]).__ceil__())
                self.assertIs(holds(book, ("<=", reading, bound)), True)
                self.assertIs(holds(book, ("<=", reading, bound - 1)), False)
                self.assertIs(holds(with_rule(book, ("<=", reading, bound)), ("<=", reading, bound)), follows(book, ("<=", reading, bound)) or holds(book, ("<=", reading, bound)))
            self.assertEqual(book, before)
            self.assertEqual((survives(book), kept_rules(book)), (found, kept))
        self.assertGreater(min(seen.values()), 50)
        self.assertGreater(min(kept_seen.values()), 50)


class Errors(TimedCase):
    CALLS = ((greatest_held, ((1,),)), (holds, (("<=", (1,), 1),)), (kept_rules, ()), (survives, ()))

    def given(self, more, many):
        """Return arguments with a READING of so many cells."""
        if more and more[0][0] == "<=":
            return (("<=", (1,) * many, 1),)
        return ((1,) * many,) if more else ()

    def test_no_stand(self):
        for book in NONE:
            for call, more in self.CALLS:
                with self.assertRaises(NoStand) as caught:
                    call(book, *self.given(more, 2))
                self.assertEqual(caught.exception.paper, no_stand(book))

    def test_too_many(self):
        for book, most in ((crowded(), 400), (wide(), 40)):
            many = len(book[0][0])
            for call, more in self.CALLS:
                found = self.quick(call, book, *self.given(more, many))
                self.assertIsInstance(found, TooMany)
                self.assertEqual(found.most, most)
                bare = (book[0], book[1] + (("=", (0,) * many, 1),))
                self.assertIsInstance(self.quick(call, bare, *self.given(more, many)), NoStand)

    def test_at_the_bounds(self):
        for size in (2, 9, 10 ** 40 - 1):
            for seed in range(6) if size < 10 else (2, 3, 5):
                draw = random.Random(seed)
                frame = (CELLS, tuple((cell,) for cell in CELLS), (), draw.choice(("usual", "strict")))
                if seed % 3 == 1:
                    frame = (CELLS, (CELLS[:3], CELLS[3:4], CELLS[4:6]), CELLS[6:], frame[3])
                if seed % 3 == 2:
                    frame = (CELLS, (CELLS[:4], CELLS[4:]), (), frame[3])
                rules = made_great_rules(draw, CELLS, size, seed // 3)
                book = (frame, rules)
                reading = rules[-1][1]
                found = self.quick(greatest_held, book, reading)
                if not isinstance(found, TooMany):
                    self.assertIs(self.quick(is_greatest_held, book, reading, found), True)
                    kept = self.quick(kept_rules, book)
                    self.assertIs(self.quick(survives, book), len(kept) == 16)
                    self.assertIs(self.quick(holds, book, rules[-1]), 15 in kept)
                    self.assertIs(is_greatest_held(book, reading, found[:2] + (inner(book),) + found[3:]), False)
