"""[12]: what values look like."""

import unittest

from heldthrough.errors import Clash, HeldError
from heldthrough.forms import is_book, is_fraction, is_frame, is_integer, is_lot, is_name, is_reading, is_rule, is_vector
from tests.values import ANY_VALUES, FRAME

LINKED = (("a", "b", "c", "d", "e"), (("a", "d"), ("b", "c")), ("e",), "strict")
OTHER = (("x", "y"), (("x",),), ("y",), "usual")
HUGE = 7 ** 20000


class Anything(unittest.TestCase):
    """Any value is told to be so or not, without an error."""

    def told(self, call):
        for thing in ANY_VALUES:
            answer = call(thing)
            self.assertTrue(answer is True or answer is False, repr(thing)[:80])

    def test_plain(self):
        for call in (is_integer, is_name, is_fraction, is_frame, is_book):
            self.told(call)

    def test_of_a_frame(self):
        for call in (is_lot, is_vector, is_reading, is_rule):
            for frame in (FRAME, LINKED, OTHER):
                self.told(lambda thing, call=call, frame=frame: call(frame, thing))

    def test_within_others(self):
        for thing in ANY_VALUES:
            for value in (
                is_fraction((thing, 3)),
                is_fraction((3, thing)),
                is_frame((thing, (("a",),), (), "usual")),
                is_frame((("a", "b"), thing, (), "usual")),
                is_frame((("a",), (thing,), (), "usual")),
                is_frame((("a", "b"), (("a",),), thing, "usual")),
                is_frame((("a",), (("a",),), (), thing)),
                is_lot(LINKED, (thing, 1)),
                is_vector(OTHER, (thing, (0, 1))),
                is_reading(OTHER, (thing, 0)),
                is_rule(OTHER, (thing, (0, 0), 0)),
                is_rule(OTHER, ("=", thing, 0)),
                is_rule(OTHER, ("=", (0, 0), thing)),
                is_book((thing, ())),
                is_book((OTHER, thing)),
                is_book((OTHER, (thing,))),
            ):
                self.assertIsInstance(value, bool)


class Numbers(unittest.TestCase):
    def test_integers(self):
        for thing in (0, 1, -1, 10 ** 40, -HUGE, HUGE):
            self.assertIs(is_integer(thing), True)
        for thing in (True, False, None, "0", "", (0,), [0], {}, HeldError(), 1.0):
            self.assertIs(is_integer(thing), False)

    def test_fractions(self):
        for thing in ((0, 1), (1, 1), (-1, 1), (1, 2), (-7, 3), (HUGE, 2), (-2, HUGE), (10 ** 60, 3)):
            self.assertIs(is_fraction(thing), True)
        wrong = [
            (2, 4), (0, 2), (0, 0), (1, 0), (-1, 0), (1, -2), (0, -1), (-3, -1), (3, 3), (-2, 6), (HUGE, 7), (HUGE, HUGE),
            (True, 1), (1, True), (False, 1), (0, True), (1,), (1, 2, 1), (), [1, 2], {1: 2}, 1, "1/2", None,
            ("1", 2), (1, "2"), (None, 1), (1, None), ((1, 1), 1), (1, (1,)), (1.0, 2), (HeldError(), 1),
        ]
        for index, thing in enumerate(wrong):
            self.assertIs(is_fraction(thing), False, index)


class Names(unittest.TestCase):
    def test_names(self):
        for thing in ("a", "z", "till", "abcdefghijkl", "zzzzzzzzzzzz"):
            self.assertIs(is_name(thing), True)

    def test_no_names(self):
        wrong = [
            "", "abcdefghijklm", "A", "Till", "tilL", "till ", " till", "ti ll", "a1", "1", "a_b", "a-b", "a\n", "\n", "`", "{",
            "\u00e4", "\u0430", "a,", None, True, 1, ("a",), ["a"], {"a": 1}, b"a", HeldError("a"),
        ]
        for thing in wrong:
            self.assertIs(is_name(thing), False, repr(thing))


class Frames(unittest.TestCase):
    def test_right(self):
        right = [
            FRAME, LINKED, OTHER,
            (("a",), (("a",),), (), "strict"), (("a",), (), ("a",), "usual"), (("b", "a"), (("b", "a"),), (), "usual"),
            (("b", "a"), (("b",), ("a",)), (), "usual"), (("a", "b", "c"), (("a", "c"),), ("b",), "usual"),
            (("c", "b", "a"), (("c",),), ("b", "a"), "usual"),
        ]
        for frame in right:
            self.assertIs(is_frame(frame), True, frame)

    def test_many_cells(self):
        names = tuple(first + second for first in "abcdefghijklmnopqrstuvwxyz" for second in "abcdefghijklmnopqrstuvwxyz")
        self.assertIs(is_frame((names, tuple((name,) for name in names), (), "usual")), True)
        self.assertIs(is_frame((names, (names[:300],), names[300:], "usual")), True)
        self.assertIs(is_frame((names, (names[:300],), names[301:], "usual")), False)

    def test_one_thing_wrong(self):
        wrong = {
            "no cells": ((), (), (), "usual"),
            "a cell twice": (("a", "a"), (("a",),), ("a",), "usual"),
            "a cell twice, once used": (("a", "a"), (("a",),), (), "usual"),
            "no name": (("A",), (("A",),), (), "usual"),
            "no name, a number": ((1,), ((1,),), (), "usual"),
            "no name, a list": ((["a"],), ((["a"],),), (), "usual"),
            "no name, added": (("a", ""), (("a",),), ("",), "usual"),
            "one of two cells no name": (("a", "B"), (("a",), ("B",)), (), "usual"),
            "one of two cells a list": (("a", ["b"]), (("a",), (["b"],)), (), "usual"),
            "one of two cells a dict": (({}, "b"), (({},), ("b",)), (), "usual"),
            "cells a list": (["a"], (("a",),), (), "usual"),
            "cells a string": ("a", (("a",),), (), "usual"),
            "groups a list": (("a",), [("a",)], (), "usual"),
            "a group a list": (("a",), (["a"],), (), "usual"),
            "a group a string": (("a",), ("a",), (), "usual"),
            "added a list": (("a",), (), ["a"], "usual"),
            "added a string": (("a",), (), "a", "usual"),
            "added None": (("a",), (("a",),), None, "usual"),
            "an empty group": (("a",), (("a",), ()), (), "usual"),
            "an empty group first": (("a",), ((), ("a",)), (), "usual"),
            "only an empty group": (("a",), ((),), ("a",), "usual"),
            "a group out of order": (("a", "b"), (("b", "a"),), (), "usual"),
            "groups out of order": (("a", "b"), (("b",), ("a",)), (), "usual"),
            "groups out of order by first cells": (("a", "b", "c"), (("b",), ("a", "c")), (), "usual"),
            "added out of order": (("a", "b"), (), ("b", "a"), "usual"),
            "a cell nowhere": (("a", "b"), (("a",),), (), "usual"),
            "a cell in two groups": (("a", "b"), (("a", "b"), ("b",)), (), "usual"),
            "a cell twice in a group": (("a",), (("a", "a"),), (), "usual"),
            "a group twice": (("a",), (("a",), ("a",)), (), "usual"),
            "a cell twice in added": (("a",), (), ("a", "a"), "usual"),
            "a cell in a group and in added": (("a",), (("a",),), ("a",), "usual"),
            "an unknown cell in a group": (("a",), (("a", "b"),), (), "usual"),
            "an unknown cell in added": (("a",), (("a",),), ("b",), "usual"),
            "an unknown cell for one": (("a", "b"), (("a",),), ("c",), "usual"),
            "way": (("a",), (("a",),), (), "Usual"),
            "way empty": (("a",), (("a",),), (), ""),
            "way None": (("a",), (("a",),), (), None),
            "way True": (("a",), (("a",),), (), True),
            "way a list": (("a",), (("a",),), (), ["usual"]),
            "a list": [("a",), (("a",),), (), "usual"],
            "too short": (("a",), (("a",),), ()),
            "too long": (("a",), (("a",),), (), "usual", ()),
            "a truth in a group": (("a",), (("a", True),), (), "usual"),
            "None in a group": (("a",), (("a", None),), (), "usual"),
            "a list in a group": (("a",), (("a", ["a"]),), (), "usual"),
            "a tuple in a group": (("a",), ((("a",),),), (), "usual"),
            "an error in a group": (("a",), ((HeldError(),),), (), "usual"),
            "None in added": (("a",), (("a",),), (None,), "usual"),
            "a list in added": (("a",), (("a",),), ([],), "usual"),
            "a dict in added": (("a",), (("a",),), ({},), "usual"),
        }
        for what, frame in wrong.items():
            self.assertIs(is_frame(frame), False, what)


class OfFrames(unittest.TestCase):
    def test_lots(self):
        for thing in ((), (0,), (1,), (0, 1)):
            self.assertIs(is_lot(LINKED, thing), True)
        self.assertIs(is_lot((("a",), (), ("a",), "usual"), ()), True)
        wrong = [
            (1, 0), (0, 0), (1, 1), (2,), (0, 2), (-1,), (-1, 0), (True,), (False,), (0, True), [0], [], {}, None, 0, "", "0",
            ("0",), ((0,),), (None,), (0.0,), (HUGE,),
        ]
        for index, thing in enumerate(wrong):
            self.assertIs(is_lot(LINKED, thing), False, index)
        self.assertIs(is_lot((("a",), (), ("a",), "usual"), (0,)), False)

    def test_vectors(self):
        for thing in (((0, 1), (0, 1)), ((1, 2), (-3, 4)), ((HUGE, 1), (1, HUGE))):
            self.assertIs(is_vector(OTHER, thing), True)
        wrong = [
            (), ((0, 1),), ((0, 1),) * 3, [(0, 1), (0, 1)], ((0, 1), [0, 1]), ((0, 1), (2, 4)), ((0, 1), (1, -1)), (0, 0), (0, (0, 1)),
            ((0, 1), 0), ((0, 1), None), ((0, True), (0, 1)), ((0, 1), (False, 1)), {(0, 1): (0, 1)}, None, "ab", ((0, 1), (0, 0)),
        ]
        for thing in wrong:
            self.assertIs(is_vector(OTHER, thing), False, thing)

    def test_readings(self):
        for thing in ((0, 0), (1, -2), (HUGE, -HUGE)):
            self.assertIs(is_reading(OTHER, thing), True)
        wrong = [
            (), (0,), (0, 0, 0), [0, 0], (True, 0), (0, False), (0, None), (0, "0"), ((0, 1), (0, 1)), (0, (0, 1)), None, {0: 0, 1: 0},
            "00",
        ]
        for thing in wrong:
            self.assertIs(is_reading(OTHER, thing), False, thing)

    def test_rules(self):
        for thing in (("=", (0, 0), 0), ("<=", (1, -2), -3), ("=", (HUGE, 0), -HUGE)):
            self.assertIs(is_rule(OTHER, thing), True)
        wrong = [
            ["=", (0, 0), 0], ("=", (0, 0)), ("=", (0, 0), 0, 0), ("<", (0, 0), 0), (">=", (0, 0), 0), ("==", (0, 0), 0), ("", (0, 0), 0),
            (True, (0, 0), 0), (None, (0, 0), 0), (["="], (0, 0), 0), ("=", [0, 0], 0), ("=", (0,), 0), ("=", (0, 0, 0), 0),
            ("=", (0, True), 0), ("=", ((0, 1), (0, 1)), 0), ("=", (0, 0), (0, 1)), ("=", (0, 0), True), ("=", (0, 0), None),
            ("=", (0, 0), "0"), (), None, "=", (("=", (0, 0), 0),), Clash(()),
        ]
        for thing in wrong:
            self.assertIs(is_rule(OTHER, thing), False, thing)

    def test_books(self):
        rule = ("<=", (1, 1), 4)
        for thing in ((OTHER, ()), (OTHER, (rule,)), (OTHER, (rule, rule, ("=", (0, 0), 0))), (OTHER, (rule,) * 40)):
            self.assertIs(is_book(thing), True)
        wrong = [
            [OTHER, ()], (OTHER,), (OTHER, (), ()), (OTHER, []), (OTHER, None), (OTHER, rule), (OTHER, ([*rule],)), (OTHER, (rule, None)),
            (OTHER, (rule, ("<", (1, 1), 4))), (list(OTHER), ()), (None, ()), ((), ()), (OTHER[:3], ()),
            ((("x", "y"), (("y",),), ("x", "y"), "usual"), ()), (OTHER, {}), (OTHER, "="), None, OTHER,
        ]
        for thing in wrong:
            self.assertIs(is_book(thing), False, thing)

    def test_a_rule_of_another_frame(self):
        rule = ("<=", (1, 1), 4)
        self.assertIs(is_book((OTHER, (rule,))), True)
        self.assertIs(is_book((FRAME, (rule,))), False)
        self.assertIs(is_book((OTHER, (rule, ("=", (1, 1, 1), 0)))), False)
        self.assertIs(is_vector(FRAME, ((0, 1), (0, 1))), False)
        self.assertIs(is_lot(OTHER, (1,)), False)


if __name__ == "__main__":
    unittest.main()
