"""[18]: HISTORIES."""

import copy
import random
import unittest

from heldthrough.errors import HeldError, NoVersion
from heldthrough.fractions import vector_of
from heldthrough.frames import with_way
from heldthrough.histories import (common_elders, elders_of, first_broken, grafted, history_fault, is_history, last_common,
                                   parents_of, shrunk, stands_of)
from tests.makers import elders_by_words, good, made_history, parents_by_words, shown, told
from tests.timed import TimedCase
from tests.values import ANY_VALUES

FRAME = (("a", "b", "c"), (("a",), ("b",)), ("c",), "usual")
BOOK = (FRAME, (("<=", (1, 1, 0), 4), ("<=", (-1, 0, 0), 0), ("<=", (1, 0, 0), 3)))
LOOSE = (FRAME, ())


def stand(a, b, c):
    """Return a WHOLE STAND."""
    return vector_of((a, b, c))


FIRST = ("first", stand(0, 0, 5))
TREE = (FIRST, ("edit", 0, stand(3, 0, 6)), ("edit", 0, stand(0, 2, 3)))
HISTORY = TREE + (
    ("merge", 1, 2, 0), ("settle", 3, 1, stand(1, 0, 1)), ("pick", 4, 0, 2), ("revert", 5, 0, 2), ("edit", 3, stand(1, 0, 0)),
)


def to_and_fro(many):
    """Return a HISTORY in which two branches are merged to and fro again and again."""
    deeds = [FIRST, ("edit", 0, stand(0, 0, 6)), ("edit", 0, stand(0, 0, 4))]
    while len(deeds) < many:
        k = len(deeds)
        deeds.append(("merge", k - 1, k - 2, 0 if k < 5 else k - 4))
    return tuple(deeds)


class Faults(unittest.TestCase):
    def fault(self, history, found, book=BOOK):
        self.assertEqual(history_fault(book, history), found)
        self.assertIs(is_history(book, history), found is None)

    def test_right(self):
        for many in range(1, len(HISTORY) + 1):
            self.fault(HISTORY[:many], None)
        self.fault((("first", stand(0, 0, 0)), ("settle", 0, 0, stand(3, 1, 0)), ("merge", 1, 1, 0), ("pick", 0, 1, 1)), None)

    def test_any_value(self):
        for thing in ANY_VALUES:
            for history in (thing, (thing,), (FIRST, thing), (FIRST, ("edit", thing, stand(0, 0, 0))), (FIRST, ("edit", 0, thing)), (("first", thing),),
                            (FIRST, ("merge", thing, 0, 0)), (FIRST, (thing, 0, stand(0, 0, 0))), (FIRST, ("pick", 0, 0, thing)), HISTORY + (thing,)):
                fault = history_fault(BOOK, history)
                self.assertIs(is_history(BOOK, history), fault is None)
                self.assertTrue(fault is None or isinstance(fault, tuple))

    def test_form(self):
        for thing in ((), [], None, True, 0, "first", {}, list(HISTORY), {0: FIRST}, HeldError(), "", [()]):
            self.fault(thing, ("form",))

    def test_deed_of_no_form(self):
        zero = stand(0, 0, 0)
        for deed in (
            (), [], None, True, "edit", ("edit",), ["edit", 0, zero], ("edit", 0), ("edit", zero), ("edit", 0, zero, zero), ("edit", 0, 0, zero), (0, 0, zero),
            ("Edit", 0, zero), (["edit"], 0, zero), ("", 0, zero), (None, 0, zero), (True, 0, zero), ("edits", 0, zero), ("edit", "0", zero), ("edit", True, zero),
            ("edit", False, zero), ("edit", None, zero), ("edit", -1, zero), ("edit", 2, zero), ("edit", 3, zero), ("edit", 10 ** 30, zero), ("edit", (0,), zero),
            ("edit", 0, (0, 0, 0)), ("edit", 0, list(zero)), ("edit", 0, zero[:2]), ("edit", 0, zero + zero[:1]), ("edit", 0, ((0, 1), (0, 2), (0, 1))),
            ("edit", 0, ((0, 1), (0, True), (0, 1))), ("edit", 0, None), ("edit", 0, ((0, 1), [0, 1], (0, 1))), FIRST, ("first", 0, zero),
            ("settle", 0, zero), ("settle", 0, 1), ("settle", 0, 1, 0, zero), ("settle", 0, 2, zero), ("settle", 2, 0, zero), ("settle", 0, True, zero),
            ("settle", -1, 0, zero), ("settle", 0, 0, zero, zero), ("settle", 0, 0, (0, 0, 0)),
            ("merge", 0, 0), ("merge", 0, 0, 0, 0), ("merge", 0, 0, zero), ("merge", 0, 0, 2), ("merge", 0, 2, 0), ("merge", 2, 0, 0), ("merge", 0, 0, False),
            ("merge", 0, True, 0), ("merge", 0, 0, -1), ("merge", 0, 0, None), ("merge", 0, 0, 0, zero),
            ("pick", 0, 0), ("pick", 0, 0, 2), ("pick", 0, 2, 0), ("pick", 2, 0, 0), ("pick", True, 0, 0), ("pick", 0, 0, zero), ("pick", -1, 0, 0), ("pick", 0, 0, 0, 0),
            ("revert", 0, 0), ("revert", 0, 0, 2), ("revert", 0, 2, 0), ("revert", 2, 0, 0), ("revert", 0, 0, True), ("revert", 0, -2, 0), ("revert", 0, 0, 0, 0),
        ):
            self.fault(TREE[:2] + (deed,), ("deed", 2))
            self.fault(TREE[:2] + (deed, ()), ("deed", 2))

    def test_first_deed(self):
        zero = stand(0, 0, 0)
        for deed in (("edit", 0, zero), ("settle", 0, 0, zero), ("merge", 0, 0, 0), ("pick", 0, 0, 0), ("first",), ("first", zero, zero), ("first", 0),
                     ["first", zero], ("first", zero[:2]), None, (), ("First", zero)):
            self.fault((deed,), ("deed", 0))
        self.fault((FIRST, FIRST), ("deed", 1))

    def test_good(self):
        for wrong, rule in ((stand(3, 2, 0), 0), (stand(-1, 0, 0), 1), (stand(4, 0, 0), 2), (stand(4, 1, 0), 0), (stand(-1, 6, 0), 0), (((7, 2), (0, 1), (0, 1)), 2)):
            self.fault((("first", wrong),), ("good", 0, rule))
            self.fault((FIRST, ("edit", 0, wrong)), ("good", 1, rule))
            self.fault(TREE + (("settle", 1, 2, wrong),), ("good", 3, rule))
            self.fault(TREE + (("settle", 1, 2, wrong), None), ("good", 3, rule))
            self.fault((("first", wrong),), None, LOOSE)

    def test_merges_need_not_be_good(self):
        self.assertEqual(stands_of(BOOK, TREE + (("merge", 1, 2, 0),))[3], stand(3, 2, 4))
        self.fault(TREE + (("merge", 1, 2, 0),), None)
        self.fault(TREE + (("pick", 1, 0, 2),), None)
        self.fault(HISTORY[:4] + (("revert", 3, 0, 3), ("edit", 3, stand(0, 0, 0))), None)

    def test_elder(self):
        for deed in (("merge", 1, 2, 1), ("merge", 1, 2, 2), ("merge", 1, 0, 1), ("merge", 0, 0, 1), ("merge", 1, 1, 2)):
            self.fault(TREE + (deed,), ("elder", 3))
            self.fault(TREE + (deed, None), ("elder", 3))
        for deed in (("merge", 1, 2, 0), ("merge", 1, 0, 0), ("merge", 1, 1, 1), ("merge", 1, 1, 0)):
            self.fault(TREE + (deed,), None)
        self.fault(HISTORY + (("merge", 7, 4, 3),), None)
        self.fault(HISTORY + (("merge", 7, 4, 2),), None)
        self.fault(HISTORY + (("merge", 7, 4, 4),), ("elder", 8))

    def test_elder_ahead_of_clash(self):
        self.fault((FIRST, ("edit", 0, stand(1, 0, 0)), ("edit", 0, stand(2, 0, 0)), ("edit", 0, stand(3, 0, 0)), ("merge", 1, 2, 3)), ("elder", 4))
        self.fault((FIRST, ("edit", 0, stand(1, 0, 0)), ("edit", 0, stand(2, 0, 0)), ("edit", 0, stand(3, 0, 0)), ("merge", 1, 2, 0)), ("clash", 4, (0,)))

    def test_picks_ask_for_no_elder(self):
        branches = TREE + (("edit", 1, stand(3, 1, 0)),)
        self.fault(branches + (("pick", 2, 0, 1),), None)
        self.fault(branches + (("pick", 0, 1, 3), ("revert", 3, 1, 3)), None)

    def test_clash(self):
        branches = (FIRST, ("edit", 0, stand(1, 1, 0)), ("edit", 0, stand(2, 2, 0)), ("edit", 0, stand(1, 2, 0)))
        for deed, groups in (
            (("merge", 1, 2, 0), (0, 1)), (("merge", 1, 3, 0), (1,)), (("merge", 2, 3, 0), (0,)), (("pick", 1, 0, 2), (0, 1)), (("pick", 3, 0, 2), (0,)),
            (("revert", 3, 1, 2), None), (("revert", 3, 2, 1), None), (("revert", 3, 0, 2), (0,)), (("revert", 0, 1, 2), (0, 1)),
        ):
            self.fault(branches + (deed,), None if groups is None else ("clash", 4, groups))
            self.fault(branches + (deed, 7), ("deed", 5) if groups is None else ("clash", 4, groups))
        self.fault(branches + (("settle", 1, 2, stand(0, 0, 0)),), None)

    def test_clash_by_way(self):
        branches = (FIRST, ("edit", 0, stand(1, 0, 0)), ("edit", 0, stand(1, 2, 0)), ("merge", 1, 2, 0))
        self.fault(branches, None)
        self.fault(branches, ("clash", 3, (0,)), (with_way(FRAME, "strict"), BOOK[1]))

    def test_least_deed(self):
        self.fault((FIRST, ("edit", 0, stand(9, 9, 9)), None, ("merge", 0, 0, 1)), ("good", 1, 0))
        self.fault((FIRST, None, ("edit", 0, stand(9, 9, 9))), ("deed", 1))
        self.fault((("first", stand(9, 9, 9)), None), ("good", 0, 0))

    def test_of_another_frame(self):
        other = (("x", "y"), (("x",), ("y",)), (), "usual")
        self.fault(HISTORY, ("deed", 0), (other, ()))

    def test_by_chance(self):
        for seed in range(150):
            draw = random.Random(seed)
            book, history, stands = made_history(draw, draw.randint(1, 15))
            before = copy.deepcopy((book, history))
            self.fault(history, None, book)
            self.assertEqual(stands_of(book, history), tuple(stands))
            bad = [version for version, one in enumerate(stands) if not good(book, one)]
            self.assertEqual(first_broken(book, history), bad[0] if bad else None)
            self.assertEqual((book, history), before)


class Elders(TimedCase):
    def test_parents(self):
        self.assertEqual([parents_of(HISTORY, version) for version in range(8)], [(), (0,), (0,), (1, 2), (1, 3), (4,), (5,), (3,)])
        self.assertEqual(parents_of((FIRST, ("settle", 0, 0, stand(0, 0, 0))), 1), (0,))
        self.assertEqual(parents_of(TREE + (("merge", 2, 1, 0),), 3), (1, 2))

    def test_elders(self):
        self.assertEqual([elders_of(HISTORY, version) for version in range(8)],
                         [(0,), (0, 1), (0, 2), (0, 1, 2, 3), (0, 1, 2, 3, 4), (0, 1, 2, 3, 4, 5), (0, 1, 2, 3, 4, 5, 6), (0, 1, 2, 3, 7)])

    def test_pick_has_one_parent(self):
        history = TREE + (("pick", 1, 0, 2), ("revert", 2, 0, 1))
        self.assertEqual([elders_of(history, 3), elders_of(history, 4)], [(0, 1, 3), (0, 2, 4)])
        self.assertEqual([common_elders(history, 3, 4), last_common(history, 3, 4)], [(0,), (0,)])

    def test_common(self):
        self.assertEqual(common_elders(HISTORY, 7, 4), (0, 1, 2, 3))
        self.assertEqual(last_common(HISTORY, 7, 4), (3,))
        self.assertEqual(last_common(HISTORY, 4, 4), (4,))
        self.assertEqual(last_common(HISTORY, 1, 2), (0,))
        self.assertEqual(last_common(HISTORY, 3, 1), (1,))

    def test_more_than_one_last(self):
        crossed = TREE + (("merge", 1, 2, 0), ("merge", 2, 1, 0))
        self.assertEqual(common_elders(crossed, 3, 4), (0, 1, 2))
        self.assertEqual(last_common(crossed, 3, 4), (1, 2))
        three = (FIRST,) + tuple(("edit", 0, stand(0, 0, k)) for k in range(3))
        three += (("settle", 1, 2, stand(0, 0, 0)), ("settle", 4, 3, stand(0, 0, 0)), ("settle", 3, 2, stand(0, 0, 0)), ("settle", 6, 1, stand(0, 0, 0)))
        self.assertEqual(last_common(three, 5, 7), (1, 2, 3))

    def test_by_chance(self):
        for seed in range(100):
            draw = random.Random(seed)
            _, history, _ = made_history(draw, draw.randint(1, 20))
            known = {}
            elders = [elders_by_words(history, version, known) for version in range(len(history))]
            for one in range(len(history)):
                self.assertEqual(parents_of(history, one), tuple(sorted(set(parents_by_words(history[one])))))
                self.assertEqual(elders_of(history, one), tuple(sorted(elders[one])))
                for other in range(len(history)):
                    common = elders[one] & elders[other]
                    last = [elder for elder in common if not any(elder in elders[more] for more in common - {elder})]
                    self.assertEqual(common_elders(history, one, other), tuple(sorted(common)))
                    self.assertEqual(last_common(history, one, other), tuple(sorted(last)))

    def test_to_and_fro(self):
        history = to_and_fro(60)
        self.assertIs(is_history(BOOK, history), True)
        self.assertEqual(elders_of(history, 59), tuple(range(60)))
        self.assertEqual(common_elders(history, 59, 58), tuple(range(59)))
        self.assertEqual(last_common(history, 59, 58), (58,))
        self.assertEqual(parents_of(history, 59), (57, 58))
        self.assertEqual(len(stands_of(BOOK, history)), 60)
        settled = TREE + tuple(("settle", k - 1 - k % 2, k - 2 - k % 2, stand(0, 0, 0)) for k in range(3, 60))
        self.assertIs(is_history(BOOK, settled), True)
        self.assertEqual(last_common(settled, 59, 58), (56, 57))

    def test_no_version(self):
        for history in (HISTORY, HISTORY[:1]):
            for version in (-1, -len(history), len(history), len(history) + 1, 10 ** 30, -(10 ** 30)):
                for call, arguments, found in (
                    (parents_of, (version,), version), (elders_of, (version,), version),
                    (common_elders, (version, 0), version), (common_elders, (0, version), version), (common_elders, (version, -7), version),
                    (last_common, (version, 0), version), (last_common, (0, version), version), (last_common, (version, 10 ** 9), version),
                    (grafted, (version, HISTORY), version),
                ):
                    with self.assertRaises(NoVersion) as context:
                        call(history, *arguments)
                    self.assertEqual(context.exception.index, found)


class Made(unittest.TestCase):
    def test_first_broken(self):
        self.assertEqual(first_broken(BOOK, HISTORY), 3)
        self.assertIs(first_broken(BOOK, TREE), None)
        self.assertIs(first_broken(LOOSE, HISTORY), None)
        self.assertEqual(first_broken((FRAME, (("=", (0, 0, 0), 1),)), (FIRST,)), 0)

    def test_shrunk(self):
        half = shrunk(BOOK, HISTORY, stand(1, 1, 1), (1, 2))
        self.assertEqual(half[0], ("first", ((1, 2), (1, 2), (3, 1))))
        self.assertEqual([deed[:-1] for deed in half[:3]], [("first",), ("edit", 0), ("edit", 0)])
        self.assertEqual(half[3], ("merge", 1, 2, 0))
        self.assertEqual(half[4], ("settle", 3, 1, ((1, 1), (1, 2), (1, 1))))
        self.assertEqual(half[5:7], HISTORY[5:7])
        self.assertEqual(half[7], ("edit", 3, ((1, 1), (1, 2), (1, 2))))
        self.assertIs(is_history(BOOK, half), True)

    def test_shrunk_ends(self):
        self.assertEqual(shrunk(BOOK, HISTORY, stand(1, 1, 1), (1, 1)), HISTORY)
        none = shrunk(BOOK, HISTORY, stand(1, 1, 1), (0, 1))
        self.assertEqual(stands_of(BOOK, none), (stand(1, 1, 1),) * 8)
        self.assertIs(is_history(BOOK, none), True)

    def test_shrunk_by_chance(self):
        for seed in range(100):
            draw = random.Random(seed)
            book, history, stands = made_history(draw, draw.randint(1, 12))
            center = draw.choice([one for one in stands if good(book, one)])
            share = draw.choice(((0, 1), (1, 3), (1, 2), (99, 100), (1, 1)))
            before = copy.deepcopy(history)
            found = shrunk(book, history, center, share)
            self.assertIs(is_history(book, found), True)
            for one, other in zip(stands, stands_of(book, found)):
                drawn = [told(c) + told(share) * (told(x) - told(c)) for c, x in zip(center, one)]
                self.assertEqual(other, tuple(shown(number) for number in drawn))
            self.assertEqual(history, before)

    def test_grafted(self):
        self.assertEqual(grafted(TREE, 1, HISTORY), TREE + (
            ("edit", 1, stand(0, 0, 5)), ("edit", 3, stand(3, 0, 6)), ("edit", 3, stand(0, 2, 3)), ("merge", 4, 5, 3), ("settle", 6, 4, stand(1, 0, 1)),
            ("pick", 7, 3, 5), ("revert", 8, 3, 5), ("edit", 6, stand(1, 0, 0)),
        ))
        for version in range(len(HISTORY)):
            found = grafted(HISTORY, version, HISTORY)
            self.assertIs(is_history(BOOK, found), True)
            self.assertEqual(parents_of(found, 8), (version,))
            self.assertEqual(stands_of(BOOK, found), stands_of(BOOK, HISTORY) * 2)

    def test_grafted_by_chance(self):
        for seed in range(60):
            draw = random.Random(seed)
            book, history, stands = made_history(draw, draw.randint(1, 12))
            part = history[:draw.randint(1, len(history))]
            version = draw.randrange(len(history))
            found = grafted(history, version, part)
            self.assertIs(is_history(book, found), True)
            self.assertEqual(found[:len(history)], history)
            self.assertEqual(stands_of(book, found), tuple(stands + stands[:len(part)]))


if __name__ == "__main__":
    unittest.main()
