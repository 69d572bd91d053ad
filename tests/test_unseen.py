"""[33], [34]: what merges have in common, and which of them may be made unseen."""

import copy
import itertools
import random

from heldthrough.booktexts import read_book, read_vector
from heldthrough.errors import Clash, NoStand, TooMany
from heldthrough.fractions import added, vector_of
from heldthrough.frames import with_way
from heldthrough.heldlimits import survives
from heldthrough.histories import is_history, stands_of
from heldthrough.limits import no_stand
from heldthrough.merges import merged
from heldthrough.unseen import is_unseen_break, looks_needed, may, may_all, parts_of, trains, unseen_break
from tests.linear import touched_by_words
from tests.makers import boxed, good, made_frame, made_ruled_book, made_stand, merge_by_words, near_stand, numbers_of
from tests.merge_words import all_kinds, do_all_merges_keep
from tests.test_crossing import singles
from tests.test_guarantees import fresh_stand
from tests.test_limits import NONE
from tests.test_safe import CELLS, crowded
from tests.timed import TimedCase
from tests.values import ANY_VALUES, others
from tests.words import dot

SHEET = read_book("sheet usual\ncells a b c\ngroup a\ngroup b\ngroup c\nrule 1 a 1 b <= 3\nrule 1 c <= 5")
SUM = read_book("sheet usual\ncells a b c\ngroup a\ngroup b\ngroup c\nrule 1 a 1 b 1 c = 6")
ADDED = read_book("sheet strict\ncells a x y\ngroup a\nadded x y\nrule 1 a 1 x <= 3\nrule -1 y <= 0")


def lots_of(frame):
    """Return the list of all LOTS of a FRAME."""
    groups = range(len(frame[1]))
    return [lot for size in range(len(frame[1]) + 1) for lot in itertools.combinations(groups, size)]


class Parts(TimedCase):
    def test_ordinary(self):
        frame = (("a", "b", "c", "x"), (("a", "b"), ("c",)), ("x",), "usual")
        base, mine, yours = vector_of((1, 2, 3, 4)), vector_of((1, 5, 3, 6)), vector_of((1, 5, 9, 1))
        self.assertEqual(parts_of(frame, base, mine, yours), (vector_of((0, 3, 0, 0)), vector_of((0, 0, 0, 2)), vector_of((0, 0, 6, -3))))
        self.assertEqual(parts_of(frame, base, base, base), (vector_of((0, 0, 0, 0)),) * 3)
        self.assertEqual(parts_of(frame, base, mine, base), (vector_of((0, 0, 0, 0)), vector_of((0, 3, 0, 2)), vector_of((0, 0, 0, 0))))
        with self.assertRaises(Clash) as caught:
            parts_of(with_way(frame, "strict"), base, mine, yours)
        self.assertEqual(caught.exception.groups, (0,))

    def test_by_chance(self):
        seen = {"clash": 0, "alike": 0, "apart": 0}
        for seed in range(600):
            draw = random.Random(seed)
            frame = made_frame(draw)
            base = made_stand(draw, frame)
            mine = near_stand(draw, frame, base)
            yours = near_stand(draw, frame, draw.choice((base, mine)))
            before = copy.deepcopy((frame, base, mine, yours))
            stand, clashing = merge_by_words(frame, base, mine, yours)
            if clashing:
                seen["clash"] += 1
                with self.assertRaises(Clash) as caught:
                    parts_of(frame, base, mine, yours)
                self.assertEqual(caught.exception.groups, clashing)
                continue
            common, own, other = parts_of(frame, base, mine, yours)
            seen["alike" if any(numbers_of(common)) else "apart"] += 1
            self.assertEqual(added(added(base, common), added(own, other)), stand)
            self.assertEqual((added(added(base, common), own), added(added(base, common), other)), (mine, yours))
            lots = [touched_by_words(frame, numbers_of(one)) for one in (common, own, other)]
            self.assertFalse(lots[0] & lots[1] or lots[0] & lots[2] or lots[1] & lots[2])
            self.assertFalse(any(common[frame[0].index(cell)] != (0, 1) for cell in frame[2]))
            self.assertEqual((frame, base, mine, yours), before)
        self.assertGreater(min(seen.values()), 40)


class Looks(TimedCase):
    def test_ordinary(self):
        frame = SHEET[0]
        base = read_vector(frame, "c 1")
        for mine, yours, found in (("a 2, c 4", "b 3, c 4", (0,)), ("a 2, c 1", "b -3, c 1", ()), ("a 2, c 1", "c 2", ()), ("a 1, c 4", "a 1, c 4", ()), ("a 1, b 1, c 5", "a 1, b 1, c 5", ())):
            self.assertEqual(looks_needed(SHEET, base, read_vector(frame, mine), read_vector(frame, yours)), found)
        start, one, other = [read_vector(SUM[0], text) for text in ("a 2, b 2, c 2", "a 3, b 1, c 2", "a 3, b 2, c 1")]
        self.assertEqual((looks_needed(SUM, start, one, other), looks_needed(SUM, start, one, start), looks_needed(SUM, start, one, one)), ((0,), (), ()))
        with self.assertRaises(Clash) as caught:
            looks_needed(SUM, start, one, read_vector(SUM[0], "a 4, b 0, c 2"))
        self.assertEqual(caught.exception.groups, (0, 1))

    def test_by_chance(self):
        """A MERGE that keeps the RULES told is GOOD; RULES told are those by the words."""
        good_ones = {True: 0, False: 0}
        for seed in range(500):
            draw = random.Random(seed)
            book = made_ruled_book(draw)
            base = fresh_stand(draw, book, made_stand(draw, book[0]))
            mine, yours = fresh_stand(draw, book, base), fresh_stand(draw, book, base)
            stand, clashing = merge_by_words(book[0], base, mine, yours)
            if clashing:
                with self.assertRaises(Clash):
                    looks_needed(book, base, mine, yours)
                continue
            found = looks_needed(book, base, mine, yours)
            _, own, other = [numbers_of(one) for one in parts_of(book[0], base, mine, yours)]
            words = [index for index, (sign, reading, bound) in enumerate(book[1])
                     if (sign == "=" and dot(reading, other) != 0) or (sign == "<=" and dot(reading, own) > 0 and dot(reading, other) > 0)]
            self.assertEqual(found, tuple(words))
            self.assertIs(good((book[0], tuple(book[1][index] for index in found)), stand), good(book, stand))
            good_ones[good(book, stand)] += 1
        self.assertGreater(min(good_ones.values()), 3)


class May(TimedCase):
    def check_break(self, book, one, other, history):
        """Check that a HISTORY breaks a BOOK by branches within two LOTS."""
        self.assertTrue(is_history(book, history))
        self.assertEqual((len(history), history[1][:2], history[2][:2], history[3]), (4, ("edit", 0), ("edit", 0), ("merge", 1, 2, 0)))
        stands = [numbers_of(stand) for stand in stands_of(book, history)]
        for stand, lot in zip(stands[1:3], (one, other)):
            self.assertLessEqual(touched_by_words(book[0], [new - old for new, old in zip(stand, stands[0])]), set(lot))
        self.assertFalse(good(book, stands_of(book, history)[3]))
        self.assertIs(is_unseen_break(book, one, other, history), True)

    def test_ordinary(self):
        for book, one, other, found in (
            (SHEET, (0,), (1,), False), (SHEET, (0,), (0,), True), (SHEET, (0, 1), (2,), True), (SHEET, (0, 1), (0, 1), False), (SHEET, (), (0, 1, 2), True), (SHEET, (), (), True), (SHEET, (2,), (2,), True),
            (SUM, (0, 1), (0, 2), False), (SUM, (0, 1), (0, 1), True), (SUM, (0,), (1, 2), True), (SUM, (0, 1, 2), (0, 1), False), (SUM, (0, 1, 2), (0, 1, 2), False),
            ((with_way(SUM[0], "strict"), SUM[1]), (0, 1, 2), (0, 1, 2), True), (ADDED, (), (), False), ((ADDED[0], ADDED[1][:1]), (), (), False), ((ADDED[0], ()), (0,), (0,), True), ((ADDED[0], (("=", (1, 0, 0), 2),)), (0,), (0,), True),
            ((ADDED[0], (("=", (1, 1, 0), 2),)), (0,), (0,), True), ((with_way(ADDED[0], "usual"), (("=", (1, 1, 0), 2),)), (0,), (0,), False), ((with_way(ADDED[0], "usual"), (("=", (1, 1, 0), 2),)), (0,), (), True),
        ):
            self.assertIs(may(book, one, other), found, (book, one, other))
            self.assertIs(may(book, other, one), found)
            history = unseen_break(book, one, other)
            self.assertIs(history is None, found)
            if history is not None:
                self.check_break(book, one, other, history)

    def test_by_chance(self):
        """By a program for each way in which the groups can be touched."""
        seen = {True: 0, False: 0}
        for seed in range(160):
            draw = random.Random(seed)
            book = made_ruled_book(draw, draw.randint(1, 4))
            lots = lots_of(book[0])
            before = copy.deepcopy(book)
            for _ in range(3):
                one, other = draw.choice(lots), draw.choice(lots)
                found = may(book, one, other)
                self.assertIs(found, do_all_merges_keep(book, all_kinds(book[0], one, other)), (book, one, other))
                seen[found] += 1
                history = unseen_break(book, one, other)
                self.assertIs(history is None, found)
                if history is not None:
                    self.check_break(book, one, other, history)
                self.assertEqual((book, unseen_break(book, one, other)), (before, history))
            self.assertIs(may(book, lots[-1], lots[-1]), survives(book))
        self.assertGreater(min(seen.values()), 100)

    def test_judge(self):
        for book, one, other in ((SHEET, (0,), (1,)), (SUM, (0, 1), (0, 2)), (ADDED, (), ())):
            history = unseen_break(book, one, other)
            for thing in others(history):
                found = is_history(book, thing) and len(thing) == 4 and thing[1][:2] == ("edit", 0) == thing[2][:2] and thing[3] == ("merge", 1, 2, 0)
                if found:
                    stands = [numbers_of(stand) for stand in stands_of(book, thing)]
                    found = all(touched_by_words(book[0], [new - old for new, old in zip(stand, stands[0])]) <= set(lot) for stand, lot in zip(stands[1:3], (one, other)))
                    found = found and not good(book, stands_of(book, thing)[3])
                self.assertIs(is_unseen_break(book, one, other, thing), found)
            self.assertIs(is_unseen_break(book, one, other, (history[0], history[2], history[1], history[3])), one == other)
            self.assertIs(is_unseen_break(book, (), (), history), one == other == ())
            self.assertIs(is_unseen_break(book, one, other, history[:3] + (("merge", 2, 1, 0),)), False)
            self.assertIs(is_unseen_break(book, one, other, history[:2] + (("settle", 0, 0, history[2][2]),) + history[3:]), False)

    def test_judge_of_any_value(self):
        for thing in ANY_VALUES:
            self.assertIs(is_unseen_break(SHEET, (0,), (1,), thing), False)
            self.assertIs(is_unseen_break(NONE[0], (0,), (1,), thing), False)


class MayAll(TimedCase):
    def test_ordinary(self):
        self.assertIs(may_all(SHEET, ((0,), (0,), (2,))), True)
        self.assertIs(may_all(SHEET, ((0,), (2,), (1,))), False)
        self.assertIs(may_all(SHEET, ((0, 1), (0, 1))), False)
        self.assertIs(may_all(SHEET, ((0, 1, 2),)), True)
        self.assertIs(may_all(SHEET, ()), True)
        self.assertIs(may_all(ADDED, ((),)), True)
        self.assertIs(may_all(ADDED, ((), ())), False)

    def test_all_at_once(self):
        """[9]: branches within LOTS that may all be merged, merged one behind the other."""
        made, broken = 0, 0
        for seed in range(400):
            draw = random.Random(seed)
            book = boxed(made_ruled_book(draw, draw.randint(2, 4)), draw.randint(3, 6))
            if no_stand(book) is not None:
                continue
            lots = [draw.choice(lots_of(book[0])) for _ in range(draw.randint(2, 4))]
            found = may_all(book, tuple(lots))
            self.assertIs(found, all(may(book, one, other) for one, other in itertools.combinations(lots, 2)))
            base = fresh_stand(draw, book, made_stand(draw, book[0]))
            here = None
            for lot in lots:
                stand = fresh_stand(draw, book, base)
                if touched_by_words(book[0], [new - old for new, old in zip(numbers_of(stand), numbers_of(base))]) <= set(lot):
                    if here is None:
                        here = stand
                        continue
                    fresh, clashing = merge_by_words(book[0], base, here, stand)
                    if not clashing:
                        here = fresh
                        if found:
                            made += 1
                            self.assertTrue(good(book, here))
                        else:
                            broken += not good(book, here)
                            break
        self.assertGreater(made, 40)
        self.assertGreater(broken, 3)

    def test_trains(self):
        self.assertEqual(trains(SHEET, ()), ((),))
        self.assertEqual(trains(SHEET, ((0, 1),)), ((0,),))
        self.assertEqual(trains(SHEET, ((0, 1), (0, 1))), ((0,), (1,)))
        self.assertEqual(trains(SHEET, ((2,), (2,), ())), ((0, 1, 2),))
        self.assertEqual(trains(SHEET, ((0,), (1,), (2,), (0, 2))), ((0, 2, 3), (1, 2)))
        for seed in range(60):
            draw = random.Random(seed)
            book = made_ruled_book(draw, draw.randint(2, 4))
            lots = tuple(draw.choice(lots_of(book[0])) for _ in range(draw.randint(0, 5)))
            near = {(i, j) for i in range(len(lots)) for j in range(i) if may(book, lots[i], lots[j])}
            good_ones = [set(one) for size in range(len(lots) + 1) for one in itertools.combinations(range(len(lots)), size)
                         if all((i, j) in near for i in one for j in one if j < i)]
            words = sorted(tuple(sorted(one)) for one in good_ones if not any(one < other for other in good_ones))
            self.assertEqual(trains(book, lots), tuple(words))

    def test_too_many(self):
        """Of six groups, each one's LOT told three times, no two of which may be merged: 3 ** 6 trains; of five 243."""
        cells = CELLS[:6]
        book = (singles(cells), tuple(("<=", tuple(int(place == k) for place in range(6)), 1) for k in range(6)) + tuple(("<=", tuple(-int(place == k) for place in range(6)), 1) for k in range(6)))
        pairs = tuple((index,) for index in range(6) for _ in range(3))
        self.assertEqual(trains(book, pairs), (tuple(range(18)),))
        limits = tuple(("<=", tuple(int(place in (k, k + 1)) for place in range(8)), 1) for k in (0, 2, 4, 6))
        book = (singles(CELLS), limits)
        lots = tuple(lot for k in (0, 2, 4, 6) for lot in ((k, k + 1),) * 5)
        found = self.quick(trains, book, lots)
        self.assertIsInstance(found, TooMany)
        self.assertEqual(found.most, 400)
        self.assertEqual(len(trains(book, lots[:4] + lots[5:9] + lots[10:14] + lots[15:19])), 256)
        self.assertEqual(len(trains(book, lots[:15])), 125)
        self.assertIsInstance(self.quick(trains, (book[0], limits + (("=", (0,) * 8, 1),)), lots), NoStand)

    def test_no_stand(self):
        for book in NONE:
            for call, more in ((may, ((0,), (1,))), (unseen_break, ((), ())), (may_all, ((),)), (may_all, (((0,),),)), (trains, ((),)), (trains, (((0,), (1,)),))):
                with self.assertRaises(NoStand) as caught:
                    call(book, *more)
                self.assertEqual(caught.exception.paper, no_stand(book))

    def test_at_the_bounds(self):
        """No FAMILIES are asked for, so there is no TooMany where they are too many."""
        everything = tuple(range(8))
        for book in (crowded(), (with_way(crowded()[0], "usual"), crowded()[1])):
            self.assertIs(self.quick(may, book, everything, everything), book[0][3] == "strict")
        for size in (3, 10 ** 40 - 1):
            for equal in range(6):
                for way in ("usual", "strict"):
                    draw = random.Random(equal)
                    rules = tuple(("=", tuple(draw.randint(-size, size) for _ in CELLS), 0) for _ in range(equal))
                    rules += tuple(("<=", tuple(draw.randint(-size, size) for _ in CELLS), draw.randint(1, size)) for _ in range(16 - equal))
                    book = (singles(CELLS, way), rules)
                    for one, other in ((everything, everything), (everything, everything[:5]), ((0, 1, 2, 3, 4), (3, 4, 5, 6, 7)), ((0, 1, 2, 3), (4, 5, 6, 7))):
                        history = self.quick(unseen_break, book, one, other)
                        if history is not None:
                            self.assertIs(is_unseen_break(book, one, other, history), True)
                    lots = tuple(tuple(sorted(draw.sample(range(8), 4))) for _ in range(8))
                    self.assertIs(self.quick(may_all, book, lots), self.quick(trains, book, lots) == (everything,))


class Same(TimedCase):
    def test_merge_is_base_and_parts(self):
        base, mine, yours = [read_vector(SHEET[0], text) for text in ("c 1", "a 2, c 4", "b 3, c 4")]
        total = base
        for one in parts_of(SHEET[0], base, mine, yours):
            total = added(total, one)
        self.assertEqual(total, merged(SHEET[0], base, mine, yours))
