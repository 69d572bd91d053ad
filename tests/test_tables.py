"""[35]: SCHEMES, TABLES, and the BOOKS that are made of them."""

import copy
import random

from heldthrough.errors import Clash
from heldthrough.forms import is_book, is_vector
from heldthrough.tables import broken_in, is_scheme, is_table, made_book, made_stand, merged_tables, table_of
from tests.makers import made_frame, merge_by_words, numbers_of, shown
from tests.timed import TimedCase
from tests.values import ANY_VALUES, others
from tests.words import dot

HEAD, ROW = (("cap",), (("cap",),), ()), (("x",), (("x",),), ())
NOTHING = ((), (), ())
SHOP = ("usual", HEAD, ROW, (("row", "<=", (-1,)), ("sum", "<=", (-1,), (1,), 0)))
STOCK = ("strict", (("p", "q"), (("p",),), ("q",)), (("x", "y", "z"), (("x", "z"),), ("y",)), (("head", "=", (1, 2), 3), ("sum", "=", (0, 1), (1, 0, -1), 4), ("row", "=", (1, 1, 0)), ("row", "<=", (0, 0, -1))))
BARE = ("usual", NOTHING, (("x", "y"), (("x", "y"),), ()), (("row", "<=", (1, 1)), ("head", "<=", (), 3), ("sum", "<=", (), (1, 0), 5)))


def made_part(draw, many):
    """Return a tuple (cells, groups, added) of so many cells."""
    return NOTHING if many == 0 else made_frame(draw, many)[:3]


def made_scheme(draw, most_rules=4, sums=True):
    """Return a SCHEME."""
    head, row = made_part(draw, draw.randint(0, 2)), made_part(draw, draw.randint(1, 3))
    rules = []
    for _ in range(draw.randint(0, most_rules)):
        word = draw.choice(("head", "row", "sum", "sum") if sums else ("head", "row"))
        sign = draw.choice(("=", "<=", "<=", "<="))
        one, other = [tuple(draw.randint(-1, 1) for _ in part[0]) for part in (head, row)]
        bound = draw.choice((0, 0, 1, 2, -1))
        rules.append({"head": ("head", sign, one, bound), "row": ("row", sign, other), "sum": ("sum", sign, one, other, bound)}[word])
    return (draw.choice(("usual", "strict")), head, row, tuple(rules))


def made_numbers(draw, many):
    """Return a tuple of so many FRACTIONS."""
    return tuple(shown(draw.choice((-1, 0, 0, 1, 2))) for _ in range(many))


def made_table(draw, scheme, many):
    """Return a TABLE of so many rows."""
    return (made_numbers(draw, len(scheme[1][0])), tuple(made_numbers(draw, len(scheme[2][0])) for _ in range(many)))


def near_table(draw, scheme, table):
    """Return a TABLE that is as another one in most cells."""
    fresh = made_table(draw, scheme, len(table[1]))
    mix = lambda old, new: tuple(draw.choice((a, a, a, b)) for a, b in zip(old, new))
    return (mix(table[0], fresh[0]), tuple(mix(old, new) for old, new in zip(table[1], fresh[1])))


def broken_by_words(scheme, table):
    """Return the couples (index of a rule, row) that a TABLE doesn't keep, as the document tells of rules."""
    head, rows = numbers_of(table[0]), [numbers_of(row) for row in table[1]]
    found = []
    for index, rule in enumerate(scheme[3]):
        if rule[0] == "row":
            seen = [(at, dot(rule[2], row), 0) for at, row in enumerate(rows)]
        else:
            total = dot(rule[2], head) + (sum(dot(rule[3], row) for row in rows) if rule[0] == "sum" else 0)
            seen = [(-1, total, rule[-1])]
        found += [(index, at) for at, number, bound in seen if number > bound or (rule[1] == "=" and number != bound)]
    return tuple(found)


def merge_tables_by_words(scheme, base, mine, yours):
    """Return the TABLE of the MERGE, part by part, and the LOT of the groups that CLASH, counted through the parts."""
    parts, clashing, ahead = [], [], 0
    for shape, one, other, third in [(scheme[1], base[0], mine[0], yours[0])] + [(scheme[2], a, b, c) for a, b, c in zip(base[1], mine[1], yours[1])]:
        made, groups = merge_by_words((*shape, scheme[0]), one, other, third)
        parts.append(made)
        clashing += [ahead + index for index in groups]
        ahead += len(shape[1])
    return (parts[0], tuple(parts[1:])), tuple(clashing)


class Forms(TimedCase):
    def test_schemes(self):
        for scheme in (SHOP, STOCK, BARE, ("usual", NOTHING, ROW, ()), ("strict", HEAD, (("x",), (), ("x",)), ()), ("usual", HEAD, HEAD, ())):
            self.assertIs(is_scheme(scheme), True)
        shop = lambda *rules: ("usual", HEAD, ROW, rules)
        for thing in (
            ("usual", HEAD, NOTHING, ()), ("loose", HEAD, ROW, ()), ("usual", HEAD, ROW, []), ("usual", HEAD, ROW), ["usual", HEAD, ROW, ()], ("usual", HEAD[:2], ROW, ()), ("usual", (("cap",), (), ()), ROW, ()), ("usual", ((), ((),), ()), ROW, ()),
            ("usual", ((), (), ("x",)), ROW, ()), ("usual", ([], (), ()), ROW, ()), ("usual", ((), [], ()), ROW, ()), ("usual", ((), (), []), ROW, ()), ("usual", HEAD, (("x", "x"), (("x",),), ()), ()), ("usual", HEAD, (("x", "y"), (("y",), ("x",)), ()), ()),
            ("usual", HEAD, (("x", "y"), (("y", "x"),), ()), ()), ("usual", HEAD, (("X",), (("X",),), ()), ()),
            shop(("row", "<=", (-1,), 0)), shop(("row", "<", (-1,))), shop(("row", "<=", (-1, 0))), shop(("row", "<=", [-1])), shop(("row", "<=", (True,))), shop(("row", "<=")), shop(["row", "<=", (-1,)]), shop(("rows", "<=", (-1,))), shop(()), shop(None),
            shop(("head", "<=", (1,))), shop(("head", "<=", (1,), True)), shop(("head", "<=", (1, 1), 0)), shop(("head", "<=", (1,), (0, 1))), shop(("sum", "=", (1,), 0)), shop(("sum", "=", (1,), (1,))), shop(("sum", "=", (1,), (1,), 0, 0)), shop(("sum", "=", (1,), (1, 1), 0)), shop(("sum", "=", (), (1,), 0)), shop((("row",), "<=", (1,))),
        ):
            self.assertIs(is_scheme(thing), False, thing)

    def test_schemes_of_any_value(self):
        for thing in ANY_VALUES:
            self.assertIs(is_scheme(thing), False)
            for place in range(4):
                scheme = SHOP[:place] + (thing,) + SHOP[place + 1:]
                found = (place == 0 and thing in ("usual", "strict") and isinstance(thing, str)) or (place == 3 and thing == () and isinstance(thing, tuple))
                self.assertIs(is_scheme(scheme), found, thing)
        good = [thing for thing in others(STOCK) if is_scheme(thing)]
        self.assertTrue(all(type(thing) is tuple and thing[0] in ("usual", "strict") for thing in good))
        self.assertNotIn(True, [type(bound) is bool for thing in good for rule in thing[3] for bound in rule[-1:]])
        self.assertGreater(len(good), 40)

    def test_tables(self):
        for scheme, table, found in (
            (SHOP, (((2, 1),), (((0, 1),),) * 3), True), (SHOP, (((2, 1),), ()), True), (SHOP, ((2,), ()), False), (SHOP, (((2, 1),), (((0, 1), (0, 1)),)), False), (SHOP, (((2, 1), (0, 1)), ()), False), (SHOP, ((), ()), False), (SHOP, (((2, 4),), ()), False),
            (SHOP, (((2, 1),), ((0, 1),)), False), (SHOP, (((2, 1),), [((0, 1),)]), False), (SHOP, [((2, 1),), ()], False), (SHOP, (((2, 1),),), False), (SHOP, (((2, 1),), (), ()), False), (SHOP, (((2, True),), ()), False), (BARE, ((), ()), True), (BARE, ((), (((1, 2), (1, 3)),)), True), (BARE, ((), (((1, 2),),)), False),
        ):
            self.assertIs(is_table(scheme, table), found, table)
        for thing in ANY_VALUES:
            self.assertIs(is_table(SHOP, thing), False)
            self.assertIs(is_table(SHOP, (((2, 1),), thing)), thing == () and type(thing) is tuple)
            self.assertIs(is_table(BARE, (thing, ())), thing == () and type(thing) is tuple)
            self.assertIs(is_table(SHOP, (((2, 1),), (thing,))), repr(thing) == "((0, 1),)")


class Broken(TimedCase):
    def test_ordinary(self):
        for scheme, table, found in (
            (SHOP, (((2, 1),), (((1, 1),), ((-1, 1),), ((5, 2),))), ((0, 1), (1, -1))), (SHOP, (((-1, 1),), ()), ((1, -1),)), (SHOP, (((5, 2),), (((5, 2),),)), ()), (BARE, ((), ()), ()), (BARE, ((), (((6, 1), (-6, 1)),)), ((2, -1),)),
            (STOCK, (((1, 1), (1, 1)), (((3, 1), (-3, 1), (0, 1)),)), ()), (STOCK, (((1, 1), (1, 1)), (((3, 1), (3, 1), (0, 1)), ((0, 1), (0, 1), (-1, 1)))), ((1, -1), (2, 0), (3, 1))),
        ):
            self.assertEqual(broken_in(scheme, table), found)

    def test_by_chance(self):
        """Against the document's words, and the RULES of the made BOOK."""
        seen = 0
        for seed in range(500):
            draw = random.Random(seed)
            scheme = made_scheme(draw)
            table = made_table(draw, scheme, draw.randint(0, 4))
            before = copy.deepcopy((scheme, table))
            found = broken_in(scheme, table)
            self.assertEqual(found, broken_by_words(scheme, table))
            self.assertEqual((scheme, table), before)
            seen += len(found) > 1
        self.assertGreater(seen, 60)


class Books(TimedCase):
    def test_made_books(self):
        self.assertEqual(made_book(SHOP, 2), ((("a", "b", "c"), (("a",), ("b",), ("c",)), (), "usual"), (("<=", (0, -1, 0), 0), ("<=", (0, 0, -1), 0), ("<=", (-1, 1, 1), 0))))
        self.assertEqual(made_book(SHOP, 0), ((("a",), (("a",),), (), "usual"), (("<=", (-1,), 0),)))
        self.assertEqual(made_book(BARE, 1), ((("a", "b"), (("a", "b"),), (), "usual"), (("<=", (1, 1), 0), ("<=", (0, 0), 3), ("<=", (1, 0), 5))))
        frame, rules = made_book(STOCK, 2)
        self.assertEqual(frame, (tuple("abcdefgh"), (("a",), ("c", "e"), ("f", "h")), ("b", "d", "g"), "strict"))
        self.assertEqual(rules, (("=", (1, 2, 0, 0, 0, 0, 0, 0), 3), ("=", (0, 1, 1, 0, -1, 1, 0, -1), 4), ("=", (0, 0, 1, 1, 0, 0, 0, 0), 0), ("=", (0, 0, 0, 0, 0, 1, 1, 0), 0), ("<=", (0, 0, 0, 0, -1, 0, 0, 0), 0), ("<=", (0, 0, 0, 0, 0, 0, 0, -1), 0)))

    def test_names(self):
        for many, at, name in ((25, 25, "z"), (26, 26, "aa"), (27, 27, "ab"), (51, 51, "az"), (52, 52, "ba"), (701, 701, "zz"), (702, 702, "aaa"), (730, 730, "abc")):
            frame = made_book(SHOP, many)[0]
            self.assertEqual((frame[0][at], len(frame[0]), len(set(frame[0]))), (name, many + 1, many + 1))
        self.assertEqual(made_book(STOCK, 9)[0][0][-3:], ("aa", "ab", "ac"))

    def test_by_chance(self):
        """A TABLE is GOOD exactly if its STAND is; each TABLE is that of its STAND; made BOOKS are BOOKS."""
        seen = {True: 0, False: 0}
        for seed in range(400):
            draw = random.Random(seed)
            scheme = made_scheme(draw)
            many = draw.randint(0 if scheme[1][0] else 1, 3)
            book, table = made_book(scheme, many), made_table(draw, scheme, many)
            self.assertTrue(is_book(book))
            stand = made_stand(table)
            self.assertTrue(is_vector(book[0], stand))
            self.assertEqual(table_of(scheme, stand), table)
            numbers = numbers_of(stand)
            broken = [index for index, (sign, reading, bound) in enumerate(book[1]) if dot(reading, numbers) > bound or (sign == "=" and dot(reading, numbers) != bound)]
            self.assertEqual(len(broken), len(broken_in(scheme, table)))
            self.assertEqual(len(book[1]), sum(many if rule[0] == "row" else 1 for rule in scheme[3]))
            seen[broken == []] += 1
        self.assertGreater(min(seen.values()), 40)


class Merged(TimedCase):
    def test_ordinary(self):
        self.assertEqual(merged_tables(BARE, ((), ()), ((), ()), ((), ())), ((), ()))
        base, mine, yours = (((2, 1),), (((0, 1),),) * 2), (((3, 1),), (((1, 1),), ((0, 1),))), (((2, 1),), (((0, 1),), ((5, 2),)))
        self.assertEqual(merged_tables(SHOP, base, mine, yours), (((3, 1),), (((1, 1),), ((5, 2),))))
        for other, groups in (((((4, 1),), (((2, 1),), ((5, 2),))), (0, 1)), ((((3, 1),), (((2, 1),), ((5, 2),))), (1,))):
            with self.assertRaises(Clash) as caught:
                merged_tables(SHOP, base, mine, other)
            self.assertEqual(caught.exception.groups, groups)

    def test_by_chance(self):
        seen = {"clash": 0, "merged": 0}
        for seed in range(600):
            draw = random.Random(seed)
            scheme = made_scheme(draw)
            base = made_table(draw, scheme, draw.randint(0, 3))
            mine, yours = near_table(draw, scheme, base), near_table(draw, scheme, base)
            before = copy.deepcopy((scheme, base, mine, yours))
            stand, groups = merge_tables_by_words(scheme, base, mine, yours)
            if groups:
                seen["clash"] += 1
                with self.assertRaises(Clash) as caught:
                    merged_tables(scheme, base, mine, yours)
                self.assertEqual(caught.exception.groups, groups)
                continue
            seen["merged"] += 1
            self.assertEqual(merged_tables(scheme, base, mine, yours), stand)
            if made_stand(base):
                book = made_book(scheme, len(base[1]))
                self.assertEqual(merge_by_words(book[0], made_stand(base), made_stand(mine), made_stand(yours)), (made_stand(stand), ()))
            self.assertEqual((scheme, base, mine, yours), before)
        self.assertGreater(min(seen.values()), 40)

    def test_many_rows(self):
        draw = random.Random(1)
        base = made_table(draw, STOCK, 2000)
        found = self.quick(merged_tables, STOCK, base, base, base)
        self.assertEqual(found, base)
        self.assertGreater(len(self.quick(broken_in, STOCK, base)), 100)
