"""[39]: shares of slack."""

import copy
import itertools
import random
from fractions import Fraction

from heldthrough.booktexts import read_book, read_vector
from heldthrough.directions import directions
from heldthrough.drift import drift
from heldthrough.errors import NoStand
from heldthrough.fractions import vector_of
from heldthrough.frames import with_way
from heldthrough.limits import no_stand
from heldthrough.shares import crowd, is_within, rise, shares
from tests.held_words import changes_by_words
from tests.linear import do_cross
from tests.makers import boxed, good, made_great_rules, made_ruled_book, made_stand, merge_by_words, numbers_of, shown, told
from tests.test_crossing import singles
from tests.test_guarantees import corner, fresh_stand
from tests.test_held import LOOSE
from tests.test_limits import NONE
from tests.test_mends import MIXED, cells_of_pieces
from tests.test_safe import CELLS, crowded
from tests.timed import TimedCase
from tests.words import dot

SHEET = read_book("sheet strict\ncells a b c\ngroup a\ngroup b\ngroup c\nrule 1 a 1 b 1 c <= 6\nrule -1 a <= 0\nrule -1 b <= 0\nrule -1 c <= 0")


def rise_by_words(frame, reading, numbers):
    """Return the sum of the VALUES above 0 at the parts in each PIECE."""
    total = Fraction(0)
    for piece in range(len(frame[1]) + len(frame[2])):
        cells = cells_of_pieces(frame, (piece,))
        total += max(0, sum(one * number for cell, one, number in zip(frame[0], reading, numbers) if cell in cells))
    return total


def crowd_by_words(book, index):
    """Return what crowd tells, by a look at all lots of LEAST CHANGES of which no two CROSS."""
    moving = [one for one in changes_by_words(book) if dot(book[1][index][1], one) != 0]
    if any(not do_cross(book[0], one, one) for one in moving):
        return None
    size = 0
    while any(all(not do_cross(book[0], one, other) for one, other in itertools.combinations(some, 2)) for some in itertools.combinations(moving, size + 1)):
        size += 1
    return size


def shares_by_words(book, base, many):
    """Return what shares tells, in Python's own Fractions."""
    found = []
    for index, (sign, reading, bound) in enumerate(book[1]):
        most = crowd_by_words(book, index)
        left = bound - dot(reading, numbers_of(base))
        found.append(None if sign == "=" or most == 0 else Fraction(left) / (many if most is None else min(many, most)))
    return found


class Rise(TimedCase):
    def test_ordinary(self):
        self.assertEqual(rise(SHEET[0], (1, 1, 1), read_vector(SHEET[0], "a 2, b -3")), (2, 1))
        self.assertEqual(rise(SHEET[0], (1, -2, 0), read_vector(SHEET[0], "a 1/2, b -3, c 9")), (13, 2))
        self.assertEqual(rise(SHEET[0], (1, 1, 1), vector_of((0, 0, 0))), (0, 1))
        self.assertEqual(rise(MIXED[0], (1, 1, 1, 1, 1), vector_of((1, 5, -2, -3, -4))), (2, 1))
        self.assertEqual(rise(MIXED[0], (-1, 1, -1, -1, -1), vector_of((1, 5, -2, -3, -4))), (14, 1))

    def test_by_chance(self):
        for seed in range(300):
            draw = random.Random(seed)
            book = made_ruled_book(draw)
            reading, vector = tuple(draw.randint(-2, 2) for _ in book[0][0]), made_stand(draw, book[0])
            found = rise(book[0], reading, vector)
            self.assertEqual(told(found), rise_by_words(book[0], reading, numbers_of(vector)))
            self.assertGreaterEqual(told(found), dot(reading, numbers_of(vector)))


class Crowd(TimedCase):
    def test_ordinary(self):
        for book, found in (
            (SHEET, [3, 1, 1, 1]), (LOOSE, [1, None]), (MIXED, [None, None, None]), ((with_way(MIXED[0], "strict"), MIXED[1]), [None, 0, None]), ((singles("abcd"), (("=", (1, 1, 1, 1), 4), ("<=", (1, 1, 0, 0), 3), ("<=", (1, 0, 0, 0), 3))), [0, 2, 1]),
            ((singles("abcd", "usual"), (("=", (1, 1, 1, 1), 4), ("<=", (1, 1, 0, 0), 3))), [4, 2]), ((singles("ab"), (("=", (1, 0), 1), ("<=", (1, 0), 5), ("<=", (0, 0), 0))), [0, 0, 0]),
        ):
            self.assertEqual([crowd(book, index) for index in range(len(book[1]))], found, book)

    def test_by_chance(self):
        seen = {}
        for seed in range(260):
            draw = random.Random(seed)
            book = made_ruled_book(draw, draw.randint(1, 4))
            before = copy.deepcopy(book)
            for index in range(len(book[1])):
                found = crowd(book, index)
                self.assertEqual(found, crowd_by_words(book, index))
                seen[found] = seen.get(found, 0) + 1
            self.assertEqual(book, before)
        self.assertGreater(min(seen[key] for key in (0, 1, 2, None)), 20)


class Shares(TimedCase):
    def test_ordinary(self):
        base = read_vector(SHEET[0], "c 2")
        for many, found in ((1, ((4, 1), (0, 1), (0, 1), (2, 1))), (2, ((2, 1), (0, 1), (0, 1), (2, 1))), (3, ((4, 3), (0, 1), (0, 1), (2, 1))), (9, ((4, 3), (0, 1), (0, 1), (2, 1)))):
            self.assertEqual(shares(SHEET, base, many), found)
        self.assertEqual([shares(LOOSE, vector_of((0, -1)), many) for many in (1, 2, 7)], [((2, 1), (3, 1)), ((2, 1), (3, 2)), ((2, 1), (3, 7))])
        equal = (singles("ab"), (("=", (1, 0), 1), ("<=", (1, 0), 5), ("<=", (0, 1), 5)))
        self.assertEqual(shares(equal, vector_of((1, 4)), 3), (None, None, (1, 1)))

    def test_is_within(self):
        base = read_vector(SHEET[0], "c 2")
        for many, text, found in ((1, "a 4, c 2", True), (2, "a 4, c 2", False), (2, "a 2, c 2", True), (3, "a 4/3, c 2", True), (3, "a 3/2, c 2", False), (2, "a 2, b 1, c 2", False), (2, "a 2, b -1, c 2", False), (2, "c 2", True), (2, "c -1", False), (2, "c 0", True)):
            self.assertIs(is_within(SHEET, base, many, read_vector(SHEET[0], text)), found, (many, text))

    def test_by_chance(self):
        seen = {True: 0, False: 0}
        for seed in range(150):
            draw = random.Random(seed)
            book = made_ruled_book(draw, draw.randint(1, 4))
            base, many = corner(draw, book), draw.randint(1, 4)
            before = copy.deepcopy((book, base))
            found = shares(book, base, many)
            words = shares_by_words(book, base, many)
            self.assertEqual([None if one is None else told(one) for one in found], words)
            for stand in (base, made_stand(draw, book[0]), fresh_stand(draw, book, base)):
                change = [new - old for new, old in zip(numbers_of(stand), numbers_of(base))]
                within = all(share is None or rise_by_words(book[0], rule[1], change) <= share for rule, share in zip(book[1], words))
                self.assertIs(is_within(book, base, many, stand), within)
                seen[within] += 1
            self.assertEqual(((book, base), shares(book, base, many)), (before, found))
        self.assertGreater(min(seen.values()), 60)

    def test_branches_within_their_shares(self):
        """Up to many of them, no two of which CLASH, merged over the base one behind the other."""
        merges, tight, equal = 0, 0, 0
        for seed in range(700):
            draw = random.Random(seed)
            book = boxed(made_ruled_book(draw, draw.randint(2, 4)), draw.randint(3, 6))
            if no_stand(book) is not None:
                continue
            base, many = corner(draw, book), draw.randint(1, 4)
            if draw.random() < 0.6:
                other = corner(draw, book)
                base = tuple(shown((told(one) + told(two)) / 2) for one, two in zip(base, other))
            limits = tuple(rule for rule in book[1] if rule[0] == "<=")
            whole = drift(book) == directions(book)
            branches = []
            for _ in range(many):
                stand = self.led(draw, book, base, many)
                if all(merge_by_words(book[0], base, stand, other)[1] == () for other in branches):
                    branches.append(stand)
            here = branches[0] if branches else base
            for stand in branches[1:]:
                here, clashing = merge_by_words(book[0], base, here, stand)
                if clashing:
                    break
                merges += here not in (base, stand)
                self.assertTrue(good((book[0], limits), here), (book, base, branches))
                if whole:
                    equal += 1
                    self.assertTrue(good(book, here))
                tight += any(dot(rule[1], numbers_of(here)) == rule[2] != dot(rule[1], numbers_of(base)) for rule in limits)
        self.assertGreater(merges, 60)
        self.assertGreater(tight, 5)
        self.assertGreater(equal, 60)

    def led(self, draw, book, base, many):
        """Return a GOOD STAND within its share: led from the base toward another one as far as that may be."""
        stand = fresh_stand(draw, book, base)
        change, share = [new - old for new, old in zip(numbers_of(stand), numbers_of(base))], Fraction(1)
        for rule, most in zip(book[1], shares(book, base, many)):
            risen = rise_by_words(book[0], rule[1], change)
            if most is not None and risen > told(most):
                share = min(share, told(most) / risen)
        stand = tuple(shown(told(old) + share * number) for old, number in zip(base, change))
        self.assertIs(is_within(book, base, many, stand), True)
        self.assertTrue(good(book, stand))
        return stand

    def test_no_stand(self):
        for book in NONE:
            stand = vector_of((0, 0))
            for call, more in ((crowd, (0,)), (shares, (stand, 2)), (is_within, (stand, 2, stand))):
                with self.assertRaises(NoStand) as caught:
                    call(book, *more)
                self.assertEqual(caught.exception.paper, no_stand(book))

    def test_at_the_bounds(self):
        """No FAMILIES are asked for, so there is no TooMany where they are too many."""
        none = vector_of((0,) * 8)
        limited = (crowded()[0], crowded()[1] + (("<=", (1, 1, 1, 1, 0, 0, 0, 0), 6),))
        self.assertEqual(self.quick(crowd, limited, 3), 2)
        self.assertEqual(self.quick(shares, limited, none, 9), (None, None, None, (3, 1)))
        for size in (3, 10 ** 40 - 1):
            for seed in range(4):
                draw = random.Random(seed)
                rules = made_great_rules(draw, CELLS, size, seed)
                book = (singles(CELLS, "usual" if seed % 2 else "strict"), rules)
                self.assertEqual(len(self.quick(shares, book, none, 10 ** 40 - 1)), 16)
                self.assertIs(self.quick(is_within, book, none, 3, none), True)
                self.quick(crowd, book, 15)
