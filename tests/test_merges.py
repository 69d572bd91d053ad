"""[17]: MERGES."""

import copy
import itertools
import random
import unittest

from heldthrough.errors import Clash
from heldthrough.fractions import vector_of
from heldthrough.frames import with_way
from heldthrough.merges import change, clashes, merged, picked, reverted
from tests.makers import made_frame, made_stand, merge_by_words, near_stand, told

FRAME = (("a", "b", "c", "d"), (("a", "c"), ("b",)), ("d",), "usual")
STRICT = with_way(FRAME, "strict")


class Merges(unittest.TestCase):
    def clash(self, call, *arguments):
        with self.assertRaises(Clash) as context:
            call(*arguments)
        return context.exception.groups

    def merge(self, frame, base, mine, yours):
        """Return the MERGE of WHOLE STANDS, or ("clash", LOT)."""
        stands = [vector_of(numbers) for numbers in (base, mine, yours)]
        groups = clashes(frame, *stands)
        if groups:
            self.assertEqual(self.clash(merged, frame, *stands), groups)
            return ("clash", groups)
        stand = merged(frame, *stands)
        return tuple(number if den == 1 else (number, den) for number, den in stand)

    def test_change(self):
        self.assertEqual(change(((1, 2), (3, 1)), ((1, 1), (1, 1))), ((1, 2), (-2, 1)))
        self.assertEqual(change(((1, 2),), ((1, 2),)), ((0, 1),))

    def test_groups(self):
        base = (0, 0, 0, 0)
        for mine, yours, usual, strict in (
            ((0, 0, 0, 0), (0, 0, 0, 0), (0, 0, 0, 0), (0, 0, 0, 0)),
            ((1, 0, 0, 0), (0, 0, 0, 0), (1, 0, 0, 0), (1, 0, 0, 0)),
            ((0, 0, 0, 0), (1, 2, 3, 0), (1, 2, 3, 0), (1, 2, 3, 0)),
            ((1, 0, 0, 0), (0, 2, 0, 0), (1, 2, 0, 0), (1, 2, 0, 0)),
            ((1, 0, 2, 0), (1, 0, 2, 0), (1, 0, 2, 0), ("clash", (0,))),
            ((1, 5, 2, 0), (1, 0, 2, 0), (1, 5, 2, 0), ("clash", (0,))),
            ((1, 0, 2, 0), (1, 0, 0, 0), ("clash", (0,)), ("clash", (0,))),
            ((1, 0, 0, 0), (0, 0, 1, 0), ("clash", (0,)), ("clash", (0,))),
            ((1, 0, 0, 0), (2, 0, 0, 0), ("clash", (0,)), ("clash", (0,))),
            ((0, 1, 0, 0), (0, 2, 0, 0), ("clash", (1,)), ("clash", (1,))),
            ((0, 1, 0, 0), (0, 1, 0, 0), (0, 1, 0, 0), ("clash", (1,))),
            ((1, 1, 0, 0), (0, 2, 1, 0), ("clash", (0, 1)), ("clash", (0, 1))),
            ((1, 1, 0, 0), (1, 2, 0, 0), ("clash", (1,)), ("clash", (0, 1))),
            ((1, 1, 0, 3), (1, 1, 0, 4), (1, 1, 0, 7), ("clash", (0, 1))),
        ):
            self.assertEqual(self.merge(FRAME, base, mine, yours), usual)
            self.assertEqual(self.merge(STRICT, base, mine, yours), strict)

    def test_added(self):
        for base, mine, yours, found in ((5, 6, 3, 4), (0, 2, 2, 4), (2, 2, 2, 2), (1, 0, 0, -1), (3, 3, 9, 9), (3, 9, 3, 9)):
            for frame in (FRAME, STRICT):
                self.assertEqual(self.merge(frame, (0, 0, 0, base), (0, 0, 0, mine), (0, 0, 0, yours)), (0, 0, 0, found))

    def test_back_to_the_base(self):
        self.assertEqual(self.merge(FRAME, (1, 2, 3, 4), (1, 2, 3, 4), (0, 0, 0, 0)), (0, 0, 0, 0))
        self.assertEqual(self.merge(FRAME, (1, 2, 3, 4), (0, 0, 0, 0), (1, 2, 3, 4)), (0, 0, 0, 0))

    def test_all_small(self):
        """All STANDS of noughts and ones over all bases, in both ways, against the words of the document."""
        stands = [vector_of(numbers) for numbers in itertools.product((0, 1), repeat=4)]
        for frame in (FRAME, STRICT):
            for base, mine, yours in itertools.product(stands, repeat=3):
                self.against_words(frame, base, mine, yours)

    def test_by_chance(self):
        for seed in range(1500):
            draw = random.Random(seed)
            frame = made_frame(draw)
            base = made_stand(draw, frame)
            mine, yours = near_stand(draw, frame, base), near_stand(draw, frame, base)
            self.against_words(frame, base, mine, draw.choice((yours, yours, mine)))

    def against_words(self, frame, base, mine, yours):
        stand, groups = merge_by_words(frame, base, mine, yours)
        before = copy.deepcopy((frame, base, mine, yours))
        self.assertEqual(clashes(frame, base, mine, yours), groups)
        self.assertEqual(clashes(frame, base, yours, mine), groups)
        if groups:
            self.assertEqual(self.clash(merged, frame, base, mine, yours), groups)
            self.assertEqual(self.clash(merged, frame, base, yours, mine), groups)
            self.assertEqual(self.clash(picked, frame, yours, base, mine), groups)
            self.assertEqual(self.clash(reverted, frame, yours, mine, base), groups)
        else:
            self.assertEqual(merged(frame, base, mine, yours), stand)
            self.assertEqual(merged(frame, base, yours, mine), stand)
            self.assertEqual(picked(frame, yours, base, mine), stand)
            self.assertEqual(reverted(frame, yours, mine, base), stand)
        self.assertEqual((frame, base, mine, yours), before)
        self.assertEqual([told(number) for number in change(base, mine)], [told(m) - told(b) for m, b in zip(mine, base)])

    def test_picks_and_reverts(self):
        onto, begin, end = [vector_of(numbers) for numbers in ((9, 1, 9, 2), (0, 1, 0, 5), (0, 7, 0, 6))]
        self.assertEqual(picked(FRAME, onto, begin, end), vector_of((9, 7, 9, 3)))
        self.assertEqual(reverted(FRAME, picked(FRAME, onto, begin, end), begin, end), onto)
        self.assertEqual(reverted(FRAME, onto, begin, end), vector_of((9, 1, 9, 1)))
        self.assertEqual(self.clash(reverted, STRICT, onto, begin, end), (1,))
        self.assertEqual(picked(FRAME, onto, begin, begin), onto)
        self.assertEqual(picked(FRAME, begin, begin, end), end)
        self.assertEqual(reverted(FRAME, end, begin, end), begin)


if __name__ == "__main__":
    unittest.main()
