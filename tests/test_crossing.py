"""[25]: what CROSSES, FAMILIES and OUTSIDES."""

import copy
import random

from heldthrough.crossing import crosses, families, outside, uncrossed
from heldthrough.errors import TooMany
from heldthrough.frames import with_way
from heldthrough.leastchanges import least_changes
from heldthrough.spaces import space_of, upright
from tests.linear import do_cross, families_by_words, space_by_words
from tests.makers import made_frame
from tests.test_leastchanges import made_space
from tests.timed import TimedCase

CELLS = tuple("abcdefgh")


def singles(cells, way="strict"):
    """Return the FRAME in which each cell is a group."""
    return (tuple(cells), tuple((cell,) for cell in cells), (), way)


def units(many):
    """Return the LEAST CHANGES of the SPACE of all VECTORS."""
    return tuple(sorted(tuple(int(k == place) for k in range(many)) for place in range(many)))


def named(many):
    """Return a tuple of so many NAMES."""
    return tuple(chr(97 + k // 26) + chr(97 + k % 26) for k in range(many))


def grid(rows, columns, more):
    """Return a FRAME and changes of all rows, all columns, and each of some more cells: so rows * columns + more FAMILIES."""
    cells = named(rows * columns + more)
    lots = [range(row * columns, row * columns + columns) for row in range(rows)] + [range(column, rows * columns, columns) for column in range(columns)]
    lots += [[len(cells) - 1 - k] for k in range(more)]
    return singles(cells), tuple(sorted(tuple(int(k in lot) for k in range(len(cells))) for lot in lots))


class Crossing(TimedCase):
    def test_crosses(self):
        frame = (("a", "b", "c", "d"), (("a", "b"), ("c",)), ("d",), "usual")
        for one, other, found in (
            ((1, 0, 0, 0), (0, 1, 0, 0), True), ((1, 0, 0, 0), (0, 0, 1, 0), False), ((1, 0, 1, 0), (0, 0, 1, 0), True), ((0, 0, 0, 1), (0, 0, 0, 1), False),
            ((1, 0, 0, -1), (0, 0, 1, -1), False), ((1, -1, 0, 0), (1, -1, 0, 0), True), ((0, 0, 0, 1), (1, 0, 0, 1), False), ((0, 0, 2, -1), (0, 0, 2, -1), True),
        ):
            for way in ("usual", "strict"):
                self.assertIs(crosses(with_way(frame, way), one, other), found)
                self.assertIs(crosses(with_way(frame, way), other, one), found)

    def test_uncrossed(self):
        for way in ("usual", "strict"):
            frame = (("a", "b", "c"), (("a",), ("b",)), ("c",), way)
            self.assertEqual(uncrossed(frame, ()), ())
            self.assertEqual(uncrossed(frame, units(3)), ((0, 0), (0, 1), (0, 2), (1, 2)))
            self.assertEqual(uncrossed(frame, ((0, 1, -1), (1, -1, 0), (1, 0, -1))), ((0, 2),))
            self.assertEqual(uncrossed((("a", "b", "c"), (), ("a", "b", "c"), way), ((0, 1, -1), (1, -1, 0))), ((0, 0), (0, 1), (1, 1)))
            self.assertEqual(uncrossed((("a", "b", "c"), (("a", "b", "c"),), (), way), units(3)), ())

    def test_families(self):
        for way in ("usual", "strict"):
            frame = (("a", "b", "c"), (("a",), ("b",)), ("c",), way)
            self.assertEqual(families(frame, ()), ((),))
            self.assertEqual(families(frame, units(3)), ((1,), (2,)))
            self.assertEqual(families(frame, ((0, 0, 1),)), ((),))
            self.assertEqual(families(frame, ((0, 1, -1), (1, -1, 0), (1, 0, -1))), ((0, 1), (1, 2)))
            self.assertEqual(families((("a", "b", "c"), (("a", "b", "c"),), (), way), units(3)), ((0, 1, 2),))
            self.assertEqual(families((("a", "b", "c"), (), ("a", "b", "c"), way), units(3)), ((),))
            self.assertEqual(families(singles("abc", way), units(3)), ((0,), (1,), (2,)))

    def test_outside(self):
        frame = singles("abc")
        self.assertEqual(outside(frame, units(3), (0,)), ((1, 0, 0), (0, 1, 0)))
        self.assertEqual(outside(frame, units(3), (2,)), ((0, 1, 0), (0, 0, 1)))
        self.assertEqual(outside(frame, (), ()), ())
        self.assertEqual(outside(frame, ((0, 1, -1), (1, -1, 0), (1, 0, -1)), (0, 1)), ((1, 0, -1),))
        self.assertEqual(outside(frame, ((0, 1, -1), (1, -1, 0), (1, 0, -1)), (0, 1, 2)), ())
        added = (("a", "b"), (), ("a", "b"), "usual")
        self.assertEqual(outside(added, units(2), ()), ((1, 0), (0, 1)))

    def test_by_chance(self):
        sizes = {}
        for seed in range(300):
            draw = random.Random(seed)
            frame = made_frame(draw, draw.randint(1, 5))
            many = len(frame[0])
            changes = least_changes(made_space(draw, many, 1), many)
            if draw.random() < 0.2:
                changes = tuple(change for change in changes if draw.random() < 0.7)
            before = copy.deepcopy((frame, changes))
            indexes = range(len(changes))
            apart = tuple((i, j) for i in indexes for j in indexes if i <= j and not do_cross(frame, changes[i], changes[j]))
            self.assertEqual(uncrossed(frame, changes), apart)
            found = families(frame, changes)
            self.assertEqual(found, families_by_words(frame, changes))
            for family in found:
                left = [change for index, change in enumerate(changes) if index not in family]
                self.assertEqual(outside(frame, changes, family), space_by_words(left))
            for i in indexes:
                self.assertIs(crosses(frame, changes[0], changes[i]), do_cross(frame, changes[0], changes[i]))
            self.assertEqual((frame, changes), before)
            sizes[len(found)] = True
        self.assertGreater(len(sizes), 3)

    def test_exactly_400(self):
        for rows, columns, more in ((20, 20, 0), (16, 25, 0), (19, 21, 1), (5, 8, 360)):
            found = self.quick(families, *grid(rows, columns, more))
            self.assertEqual(len(found), 400)
            self.assertEqual(len(set(found)), 400)

    def test_more_than_400(self):
        for rows, columns, more in ((20, 20, 1), (3, 134, 0), (21, 20, 0), (24, 24, 50)):
            found = self.quick(families, *grid(rows, columns, more))
            self.assertIsInstance(found, TooMany)
            self.assertEqual(found.most, 400)

    def test_many_more_than_400(self):
        """Any four of eight cells, or the other four: 2 ** 35 FAMILIES and more; listing them all would never end."""
        for seed in range(3):
            draw = random.Random(seed)
            space = upright(space_of([tuple(draw.randint(1, 10 ** 6) for _ in CELLS) for _ in range(3)], 8), 8)
            changes = least_changes(space, 8)
            self.assertEqual(len(changes), 70)
            found = self.quick(families, singles(CELLS), changes)
            self.assertIsInstance(found, TooMany)
            self.assertEqual(found.most, 400)

    def test_many_cells(self):
        """Any one of eight pairs of cells: a star for each cell, and a triangle for any three."""
        changes = least_changes(upright(((1,) * 8,), 8), 8)
        self.assertEqual(len(changes), 28)
        self.assertEqual(len(self.quick(families, singles(CELLS), changes)), 8 + 56)
