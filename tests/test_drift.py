"""[26]: what changes that AGREE bring about, and the DRIFT."""

import copy
import random

from heldthrough.drift import agreeing, common_part, do_agree, drift, drift_steps, is_closed, off_flat, parting_pair
from heldthrough.errors import NoStand
from heldthrough.fractions import vector_of
from heldthrough.frames import with_way
from heldthrough.histories import is_history, stands_of
from heldthrough.limits import no_stand
from heldthrough.sharings import sharings
from heldthrough.spaces import joined, space_of, upright
from tests.linear import agreeing_by_words, directions_by_words, drift_by_words, is_in, places_by_words, space_by_words
from tests.makers import good, made_frame, made_ruled_book, merge_by_words, shown, told
from tests.test_leastchanges import made_space, made_vector
from tests.test_limits import NONE
from tests.timed import TimedCase

CELLS = tuple("abcdefgh")
SINGLES = (("a", "b", "c"), (("a",), ("b",), ("c",)), (), "usual")
GROUPED = (("a", "b", "c", "d"), (("a", "b"), ("c",)), ("d",), "usual")


def common_by_words(frame, one, other):
    """Return (whether two VECTORS AGREE, their COMMON PART if they do), as the document defines them."""
    both = [places for places in places_by_words(frame) if any(told(one[k]) for k in places) and any(told(other[k]) for k in places)]
    places = {place for group in both for place in group}
    agree = all(told(one[place]) == told(other[place]) for place in places)
    return agree, tuple(number if place in places else (0, 1) for place, number in enumerate(one))


def is_pair_by_words(frame, rows, pair):
    """Tell whether a value is two VECTORS in a span that AGREE, and their COMMON PART, which is not in it, all WHOLE."""
    if any(den != 1 for vector in pair for num, den in vector) or [len(vector) for vector in pair] != [len(frame[0])] * 3:
        return False
    one, other, common = pair
    agree, found = common_by_words(frame, one, other)
    numbers = [[told(number) for number in vector] for vector in pair]
    return agree and found == common and is_in(rows, numbers[0]) and is_in(rows, numbers[1]) and not is_in(rows, numbers[2])


class Agree(TimedCase):
    def test_ordinary(self):
        for frame, one, other, agree, common in (
            (SINGLES, (1, -1, 0), (1, 0, -1), True, (1, 0, 0)), (SINGLES, (1, -1, 0), (0, -1, 2), True, (0, -1, 0)), (SINGLES, (1, -1, 0), (-1, 1, 0), False, None),
            (SINGLES, (1, 0, 0), (0, 1, 0), True, (0, 0, 0)), (SINGLES, (0, 0, 0), (5, 5, 5), True, (0, 0, 0)), (SINGLES, (2, 3, 4), (2, 3, 4), True, (2, 3, 4)),
            (GROUPED, (1, 0, 0, 7), (1, 0, 2, 3), True, (1, 0, 0, 0)), (GROUPED, (1, 0, 0, 7), (1, 1, 0, 7), False, None), (GROUPED, (0, 0, 0, 7), (0, 0, 0, 7), True, (0, 0, 0, 0)),
            (GROUPED, (0, 2, 1, 5), (0, 0, 1, -5), True, (0, 0, 1, 0)), (GROUPED, (3, 0, 1, 5), (3, 0, 1, 5), True, (3, 0, 1, 0)), (GROUPED, (0, 1, 0, 0), (1, 0, 0, 0), False, None),
        ):
            for way in ("usual", "strict"):
                first, second = vector_of(one), vector_of(other)
                self.assertIs(do_agree(with_way(frame, way), first, second), agree)
                self.assertIs(do_agree(with_way(frame, way), second, first), agree)
                if agree:
                    self.assertEqual(common_part(with_way(frame, way), first, second), vector_of(common))
                    self.assertEqual(common_part(with_way(frame, way), second, first), vector_of(common))

    def test_by_chance(self):
        seen = {True: 0, False: 0}
        for seed in range(300):
            draw = random.Random(seed)
            frame = made_frame(draw)
            one, other = [tuple((draw.choice((0, 0, 1)), 1) for _ in frame[0]) for _ in range(2)]
            agree, common = common_by_words(frame, one, other)
            self.assertIs(do_agree(frame, one, other), agree)
            seen[agree] += 1
            if agree:
                self.assertEqual(common_part(frame, one, other), common)
                if frame[3] == "usual":
                    zero = ((0, 1),) * len(one)
                    merge = merge_by_words(frame, zero, one, other)
                    self.assertEqual(merge, (tuple(shown(told(a) + told(b) - told(c)) for a, b, c in zip(one, other, common)), ()))
        self.assertGreater(min(seen.values()), 20)


class Closed(TimedCase):
    def test_agreeing(self):
        for frame, space, found in (
            (SINGLES, (), ()), (SINGLES, ((1, 2, 0),), ((1, 2, 0),)), (SINGLES, ((1, 0, 0), (0, 1, 0)), ((1, 0, 0), (0, 1, 0))), (GROUPED, ((0, 0, 0, 1),), ()),
            (GROUPED, ((1, 0, 0, 1),), ((1, 0, 0, 0),)), (GROUPED, ((1, 0, 0, 1), (0, 0, 1, 1)), ((1, 0, 0, 0), (0, 0, 1, 0))), (GROUPED, ((1, 0, -1, 0), (0, 1, -1, 0)), ((1, 0, -1, 0), (0, 1, -1, 0))),
            (SINGLES, ((1, 0, -1), (0, 1, -1)), ((1, 0, 0), (0, 1, 0), (0, 0, 1))),
        ):
            self.assertEqual(agreeing(frame, space), found)
            self.assertEqual(agreeing(with_way(frame, "strict"), space), ())
            closed = joined(space, found, len(frame[0])) == space
            self.assertIs(is_closed(frame, space), closed)
            self.assertIs(is_closed(with_way(frame, "strict"), space), True)
            self.assertIsNone(parting_pair(with_way(frame, "strict"), space))
            if not closed:
                self.assertTrue(is_pair_by_words(frame, space, parting_pair(frame, space)))

    def test_no_groups(self):
        frame = (("a", "b"), (), ("a", "b"), "usual")
        for space in ((), ((1, 1),), ((1, 0), (0, 1))):
            self.assertEqual(agreeing(frame, space), ())
            self.assertIs(is_closed(frame, space), True)

    def test_by_chance(self):
        """By all ways to part the groups in both, mine and yours, as the document defines it, with five cells at most."""
        seen = {True: 0, False: 0}
        for seed in range(500):
            draw = random.Random(seed)
            frame = made_frame(draw, draw.randint(1, 5), "strict" if draw.random() < 0.1 else "usual")
            if draw.random() < 0.4:
                frame = (frame[0], tuple((cell,) for cell in frame[0][:5]), (), frame[3])
            many = len(frame[0])
            space = made_space(draw, many, 1)
            before = copy.deepcopy((frame, space))
            found, pair, closed = agreeing(frame, space), parting_pair(frame, space), is_closed(frame, space)
            common = agreeing_by_words(frame, space)
            self.assertEqual(found, space_by_words(common))
            self.assertIs(closed, all(is_in(space, row) for row in common))
            self.assertIs(pair is None, closed)
            self.assertTrue(pair is None or is_pair_by_words(frame, space, pair))
            seen[closed] += 1
            self.assertEqual((frame, space), before)
            self.assertEqual((agreeing(frame, space), parting_pair(frame, space)), (found, pair))
        self.assertGreater(min(seen.values()), 20)

    def test_whatever_agrees_has_its_common_part_there(self):
        seen = 0
        for seed in range(300):
            draw = random.Random(seed)
            frame = made_frame(draw, draw.randint(2, 5), "usual")
            space = made_space(draw, len(frame[0]), 1)
            one, other = made_vector(draw, space, len(frame[0])), made_vector(draw, space, len(frame[0]))
            for first, second in ((one, other), (one, one)):
                if do_agree(frame, first, second):
                    seen += 1
                    self.assertTrue(is_in(agreeing(frame, space), [told(number) for number in common_part(frame, first, second)]))
        self.assertGreater(seen, 200)


class Drift(TimedCase):
    def test_ordinary(self):
        total = (("=", (1, 1, 1), 6),)
        self.assertEqual(drift_steps((SINGLES, total)), (((1, 0, -1), (0, 1, -1)), ((1, 0, 0), (0, 1, 0), (0, 0, 1))))
        self.assertEqual(drift_steps((with_way(SINGLES, "strict"), total)), (((1, 0, -1), (0, 1, -1)),))
        self.assertEqual(drift_steps((SINGLES, ())), (((1, 0, 0), (0, 1, 0), (0, 0, 1)),))
        self.assertEqual(drift((GROUPED, (("=", (1, 0, 0, -1), 0),))), ((1, 0, 0, 0), (0, 1, 0, 0), (0, 0, 1, 0), (0, 0, 0, 1)))
        self.assertEqual(drift((GROUPED, (("=", (1, 1, 0, 0), 0), ("=", (0, 0, 1, 0), 1)))), ((1, -1, 0, 0), (0, 0, 0, 1)))
        self.assertEqual(drift((SINGLES, (("=", (1, 0, 0), 1), ("=", (0, 1, 0), 2), ("=", (0, 0, 1), 3)))), ())

    def test_off_flat(self):
        for book in ((SINGLES, ()), (with_way(SINGLES, "strict"), (("=", (1, 1, 1), 6),)), (GROUPED, (("=", (1, 1, 0, 0), 0),))):
            self.assertIsNone(off_flat(book))
        for book in ((SINGLES, (("=", (1, 1, 1), 6),)), (GROUPED, (("=", (1, 0, 0, -1), 0),)), (SINGLES, (("<=", (1, 1, 1), 6), ("<=", (-1, -1, -1), -6), ("<=", (1, 0, 0), 1))),
                     (SINGLES, (("=", (1, 1, 1), 6), ("<=", (-1, 0, 0), 0), ("<=", (0, -1, 0), 0), ("<=", (0, 0, -1), 0)))):
            self.check_off_flat(book, off_flat(book))

    def check_off_flat(self, book, history):
        """Check that a value is a HISTORY that ends off the flat of all GOOD STANDS."""
        self.assertTrue(is_history(book, history))
        self.assertEqual([deed[:2] if k else deed[:1] for k, deed in enumerate(history[:3])], [("first",), ("edit", 0), ("edit", 0)])
        self.assertEqual(history[3:], (("merge", 1, 2, 0),))
        stands = [[told(number) for number in stand] for stand in stands_of(book, history)]
        self.assertTrue(all(good(book, stand) for stand in stands_of(book, history)[:3]))
        self.assertFalse(is_in(directions_by_words(book), [one - other for one, other in zip(stands[3], stands[0])]))

    def test_by_chance(self):
        steps_seen, flats = {}, {True: 0, False: 0}
        for seed in range(400):
            draw = random.Random(seed)
            book = made_ruled_book(draw, draw.randint(1, 5), "usual" if draw.random() < 0.8 else "strict")
            before, many = copy.deepcopy(book), len(book[0][0])
            steps, last, history = drift_steps(book), drift(book), off_flat(book)
            lead = directions_by_words(book)
            self.assertEqual(steps[0], space_by_words(lead))
            self.assertEqual((steps[-1], last), (last, space_by_words(drift_by_words(book[0], lead))))
            self.assertIs(is_closed(book[0], last), True)
            for one, other in zip(steps, steps[1:]):
                self.assertIs(is_closed(book[0], one), False)
                self.assertLess(len(one), len(other))
                self.assertEqual(other, joined(one, agreeing(book[0], one), many))
            self.assertIs(history is None, len(steps) == 1)
            if history is not None:
                self.check_off_flat(book, history)
            steps_seen[len(steps)] = True
            flats[history is None] += 1
            self.assertEqual(book, before)
            self.assertEqual((drift_steps(book), off_flat(book)), (steps, history))
        self.assertGreater(min(flats.values()), 20)
        self.assertIn(2, steps_seen)

    def test_several_steps(self):
        """What comes about by COMMON PARTS can bring about more: here the DRIFT is come to in three SPACES at least."""
        found = 0
        for seed in range(300):
            draw = random.Random(seed)
            frame = (CELLS[:6], tuple((cell,) for cell in CELLS[:6]), (), "usual")
            rules = tuple(("=", tuple(draw.choice((0, 0, 1, -1)) for _ in range(6)), 0) for _ in range(3))
            steps = drift_steps((frame, rules))
            if len(steps) > 2:
                found += 1
                self.assertEqual(steps[-1], space_by_words(drift_by_words(frame, steps[0])))
        self.assertGreater(found, 0)

    def test_no_stand(self):
        for book in NONE:
            for way in ("usual", "strict"):
                given = (with_way(book[0], way), book[1])
                for call in (drift_steps, drift, off_flat):
                    with self.assertRaises(NoStand) as caught:
                        call(given)
                    self.assertEqual(caught.exception.paper, no_stand(given))

    def test_at_the_bounds(self):
        frame = (CELLS, tuple((cell,) for cell in CELLS), (), "usual")
        for size in (1, 9, 10 ** 40 - 1):
            for equal in range(1, 8):
                draw = random.Random(equal)
                rules = tuple(("=", tuple(draw.randint(-size, size) for _ in CELLS), 0) for _ in range(equal))
                rules += tuple(("<=", tuple(draw.randint(-size, size) for _ in CELLS), draw.randint(0, size)) for _ in range(16 - equal))
                steps = self.quick(drift_steps, (frame, rules))
                history = self.quick(off_flat, (frame, rules))
                self.assertIs(history is None, len(steps) == 1)
                if history is not None:
                    self.check_off_flat((frame, rules), history)
                self.assertIs(is_closed(frame, steps[-1]), True)
        self.assertEqual(self.quick(agreeing, frame, upright(space_of([(1,) * 8], 8), 8)), tuple(tuple(int(k == j) for k in range(8)) for j in range(8)))


class Sharings(TimedCase):
    def test_sharings(self):
        self.assertEqual(sharings(0, 3), [()])
        self.assertEqual(sharings(3, 1), [(0, 0, 0)])
        self.assertEqual(sharings(3, 2), [(0, 0, 0), (0, 0, 1), (0, 1, 0), (0, 1, 1)])
        self.assertEqual(sharings(3, 3)[-1], (0, 1, 2))
        self.assertEqual([len(sharings(many, 3)) for many in range(1, 9)], [1, 2, 5, 14, 41, 122, 365, 1094])
        for many in range(6):
            found = sharings(many, 3)
            self.assertEqual(len(set(found)), len(found))
            for told_ in found:
                firsts = [kind for k, kind in enumerate(told_) if kind not in told_[:k]]
                self.assertEqual(firsts, list(range(len(firsts))))
