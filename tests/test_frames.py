"""[14]: FRAMES."""

import copy
import itertools
import unittest

from heldthrough.forms import is_frame
from heldthrough.frames import (added_places, group_of, linked, moved, part, places_of, renamed, taken, touched, with_way)

ONE = (("a", "b", "c"), (("a",), ("b",), ("c",)), (), "usual")
MIXED = (("a", "b", "c", "d", "e", "f"), (("a", "d"), ("b",), ("c", "f")), ("e",), "strict")
LOOSE = (("z", "y", "x", "w"), (("y",),), ("z", "x", "w"), "usual")
BARE = (("p", "q"), (), ("p", "q"), "strict")
FRAMES = (ONE, MIXED, LOOSE, BARE)


def all_lots(frame):
    """Return all LOTS of a FRAME."""
    indexes = range(len(frame[1]))
    return [lot for many in range(len(frame[1]) + 1) for lot in itertools.combinations(indexes, many)]


class Places(unittest.TestCase):
    def test_group_of(self):
        self.assertEqual([group_of(ONE, cell) for cell in ONE[0]], [0, 1, 2])
        self.assertEqual([group_of(MIXED, cell) for cell in MIXED[0]], [0, 1, 2, 0, None, 2])
        self.assertEqual([group_of(LOOSE, cell) for cell in LOOSE[0]], [None, 0, None, None])
        self.assertEqual([group_of(BARE, cell) for cell in BARE[0]], [None, None])

    def test_places_of(self):
        self.assertEqual(places_of(MIXED, ()), ())
        self.assertEqual(places_of(MIXED, (0,)), (0, 3))
        self.assertEqual(places_of(MIXED, (1,)), (1,))
        self.assertEqual(places_of(MIXED, (0, 2)), (0, 2, 3, 5))
        self.assertEqual(places_of(MIXED, (0, 1, 2)), (0, 1, 2, 3, 5))
        self.assertEqual(places_of(LOOSE, (0,)), (1,))
        self.assertEqual(places_of(BARE, ()), ())

    def test_places_of_all_lots(self):
        for frame in FRAMES:
            for lot in all_lots(frame):
                found = tuple(place for place, cell in enumerate(frame[0]) if group_of(frame, cell) in lot)
                self.assertEqual(places_of(frame, lot), found)

    def test_added_places(self):
        self.assertEqual([added_places(frame) for frame in FRAMES], [(), (4,), (0, 2, 3), (0, 1)])

    def test_moved(self):
        self.assertEqual(moved(((0, 1), (1, 2), (0, 1), (-3, 1))), (1, 3))
        self.assertEqual(moved(((0, 1), (0, 1))), ())
        self.assertEqual(moved(((-1, 7), (2, 1))), (0, 1))

    def test_touched(self):
        for frame in FRAMES:
            for numbers in itertools.product(((0, 1), (-1, 2)), repeat=len(frame[0])):
                groups = {group_of(frame, cell) for cell, number in zip(frame[0], numbers) if number[0]}
                self.assertEqual(touched(frame, numbers), tuple(sorted(groups - {None})))

    def test_touched_by_cells_that_cancel(self):
        self.assertEqual(touched(MIXED, ((1, 1), (0, 1), (0, 1), (-1, 1), (5, 1), (0, 1))), (0,))
        self.assertEqual(touched(MIXED, ((0, 1), (0, 1), (0, 1), (0, 1), (5, 1), (0, 1))), ())

    def test_part(self):
        vector = ((1, 2), (2, 1), (0, 1), (-4, 3), (5, 1), (6, 1))
        self.assertEqual(part(MIXED, vector, ()), ((0, 1),) * 6)
        self.assertEqual(part(MIXED, vector, (0, 2, 3)), ((1, 2), (0, 1), (0, 1), (-4, 3), (0, 1), (0, 1)))
        self.assertEqual(part(MIXED, vector, (0, 1, 2, 3, 4, 5)), vector)
        self.assertEqual(part(MIXED, vector, (5,)), ((0, 1),) * 5 + ((6, 1),))


class Others(unittest.TestCase):
    def test_linked(self):
        self.assertEqual(linked(ONE, ((0, 2),)), (("a", "b", "c"), (("a", "c"), ("b",)), (), "usual"))
        self.assertEqual(linked(ONE, ((1, 2),)), (("a", "b", "c"), (("a",), ("b", "c")), (), "usual"))
        self.assertEqual(linked(ONE, ((0, 1, 2),)), (("a", "b", "c"), (("a", "b", "c"),), (), "usual"))
        self.assertEqual(linked(MIXED, ((1, 2),))[1], (("a", "d"), ("b", "c", "f")))
        self.assertEqual(linked(MIXED, ((0, 1),)), (MIXED[0], (("a", "b", "d"), ("c", "f")), ("e",), "strict"))

    def test_linked_by_none(self):
        for frame in FRAMES:
            self.assertEqual(linked(frame, ()), frame)
            self.assertEqual(linked(frame, tuple((index,) for index in range(len(frame[1])))), frame)

    def test_linked_in_any_order(self):
        frame = (tuple("abcdefg"), (("a", "g"), ("b",), ("c",), ("d", "e"), ("f",)), (), "usual")
        lots = ((1, 4), (0, 2), (3,))
        found = (frame[0], (("a", "c", "g"), ("b", "f"), ("d", "e")), (), "usual")
        for order in itertools.permutations(lots):
            self.assertEqual(linked(frame, order), found)

    def test_taken(self):
        self.assertEqual(taken(MIXED, "e"), (MIXED[0], (("a", "d"), ("b",), ("c", "f"), ("e",)), (), "strict"))
        self.assertEqual(taken(LOOSE, "z"), (LOOSE[0], (("z",), ("y",)), ("x", "w"), "usual"))
        self.assertEqual(taken(LOOSE, "x"), (LOOSE[0], (("y",), ("x",)), ("z", "w"), "usual"))
        self.assertEqual(taken(taken(BARE, "q"), "p"), (("p", "q"), (("p",), ("q",)), (), "strict"))

    def test_with_way(self):
        for frame in FRAMES:
            for way in ("usual", "strict"):
                self.assertEqual(with_way(frame, way), (frame[0], frame[1], frame[2], way))

    def test_renamed(self):
        names = ("f", "e", "d", "c", "b", "a")
        self.assertEqual(renamed(MIXED, names), (names, (("f", "c"), ("e",), ("d", "a")), ("b",), "strict"))
        self.assertEqual(renamed(ONE, ("c", "a", "b")), (("c", "a", "b"), (("c",), ("a",), ("b",)), (), "usual"))
        self.assertEqual(renamed(BARE, ("q", "p")), (("q", "p"), (), ("q", "p"), "strict"))
        self.assertEqual(renamed(renamed(MIXED, names), MIXED[0]), MIXED)

    def test_all_are_frames(self):
        for frame in FRAMES:
            for way in ("usual", "strict"):
                self.assertIs(is_frame(with_way(frame, way)), True)
            for cell in frame[2]:
                self.assertIs(is_frame(taken(frame, cell)), True)
            for lot in all_lots(frame)[1:]:
                self.assertIs(is_frame(linked(frame, (lot,))), True)
            self.assertIs(is_frame(renamed(frame, tuple(reversed(frame[0])))), True)

    def test_nothing_is_changed(self):
        before = copy.deepcopy(FRAMES)
        for frame in FRAMES:
            linked(frame, tuple(lot for lot in all_lots(frame)[-1:] if lot))
            renamed(frame, tuple(reversed(frame[0])))
            with_way(frame, "usual")
            for cell in frame[2]:
                taken(frame, cell)
        self.assertEqual(FRAMES, before)


if __name__ == "__main__":
    unittest.main()
