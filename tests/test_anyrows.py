"""[36], [10]: what holds for any number of rows."""

import copy
import itertools
import random

from heldthrough.anyrows import breaking_tables, folded, is_breaking, survives_always, way_of
from heldthrough.errors import TooMany
from heldthrough.forms import is_tuple_of
from heldthrough.heldlimits import survives
from heldthrough.limits import no_stand
from heldthrough.tables import broken_in, is_table, made_book, made_stand, merged_tables
from tests.makers import told
from tests.merge_words import do_all_merges_keep
from tests.test_tables import BARE, HEAD, NOTHING, ROW, SHOP, STOCK, broken_by_words, made_scheme, made_table, merge_tables_by_words, near_table
from tests.timed import TimedCase
from tests.values import ANY_VALUES, others

TWO = (("x", "y"), (("x",), ("y",)), ())
THREE = (("x", "y", "z"), (("x",), ("y",), ("z",)), ())
BASE, MINE, YOURS = (((2, 1),), (((0, 1),),) * 3), (((2, 1),), (((1, 1),), ((1, 1),), ((0, 1),))), (((2, 1),), (((0, 1),), ((0, 1),), ((2, 1),)))
SMALL = ((((2, 1),), (((0, 1),), ((0, 1),))), (((2, 1),), (((2, 1),), ((0, 1),))), (((2, 1),), (((0, 1),), ((2, 1),))))


def way_by_words(scheme, base, mine, yours):
    """Return the WAY of a row, told as three tuples of numbers."""
    found = []
    for group in scheme[2][1]:
        places = [scheme[2][0].index(cell) for cell in group]
        by = [any(told(row[place]) != told(base[place]) for place in places) for row in (mine, yours)]
        found.append({(True, True): "alike", (True, False): "mine", (False, False): "not", (False, True): "yours"}[tuple(by)])
    return tuple(found)


def is_breaking_by_words(scheme, thing):
    """Tell whether a value is a tuple of three GOOD TABLES with equally many rows whose MERGE is not GOOD."""
    if not is_tuple_of(thing, 3) or not all(is_table(scheme, table) for table in thing) or len({len(table[1]) for table in thing}) > 1:
        return False
    if any(broken_by_words(scheme, table) for table in thing):
        return False
    stand, groups = merge_tables_by_words(scheme, *thing)
    return groups == () and broken_by_words(scheme, stand) != ()


class Ways(TimedCase):
    def test_way_of(self):
        self.assertEqual([way_of(SHOP, BASE, MINE, YOURS, index) for index in range(3)], [("mine",), ("mine",), ("yours",)])
        scheme = ("usual", NOTHING, (("x", "y", "z"), (("x", "z"), ("y",)), ()), ())
        table = lambda *numbers: ((), (tuple((number, 1) for number in numbers),))
        for mine, yours, way in (((0, 0, 0), (0, 0, 0), ("not", "not")), ((0, 0, 1), (0, 0, 1), ("alike", "not")), ((1, 0, 0), (0, 2, 0), ("mine", "yours")), ((1, 2, 0), (1, 2, 0), ("alike", "alike")), ((0, 0, 0), (1, 2, 3), ("yours", "yours"))):
            self.assertEqual(way_of(scheme, table(0, 0, 0), table(*mine), table(*yours), 0), way)
        self.assertEqual(way_of(("usual", HEAD, (("x",), (), ("x",)), ()), BASE, MINE, YOURS, 0), ())

    def test_folded(self):
        self.assertEqual(folded(SHOP, BASE, MINE, YOURS, ()), SMALL)
        self.assertEqual(folded(SHOP, BASE, MINE, YOURS, (0, 1, 2)), (BASE, MINE, YOURS))
        self.assertEqual(folded(SHOP, BASE, MINE, YOURS, (1,)), (BASE, (((2, 1),), (((1, 1),), ((1, 1),), ((0, 1),))), YOURS))
        self.assertEqual(folded(SHOP, BASE, MINE, YOURS, (2,)), ((((2, 1),), (((0, 1),),) * 2), (((2, 1),), (((0, 1),), ((2, 1),))), (((2, 1),), (((2, 1),), ((0, 1),)))))
        empty = (((2, 1),), ())
        self.assertEqual(folded(SHOP, empty, empty, (((3, 1),), ()), ()), (empty, empty, (((3, 1),), ())))

    def test_folded_by_chance(self):
        """GOOD TABLES stay GOOD; the MERGE of the three is that of the elder ones, folded likewise."""
        seen = {"good": 0, "fewer": 0, "alike": 0, "broken": 0}
        for seed in range(900):
            draw = random.Random(seed)
            scheme = made_scheme(draw, 2)
            base = made_table(draw, scheme, draw.randint(0, 6))
            mine = near_table(draw, scheme, base)
            yours = near_table(draw, scheme, draw.choice((base, mine)))
            merge, groups = merge_tables_by_words(scheme, base, mine, yours)
            if groups:
                continue
            many = len(base[1])
            kept = tuple(sorted(draw.sample(range(many), draw.randint(0, many)))) if draw.random() < 0.7 else draw.choice(((), tuple(range(many))))
            before = copy.deepcopy((scheme, base, mine, yours, kept))
            found = folded(scheme, base, mine, yours, kept)
            self.assertEqual((scheme, base, mine, yours, kept), before)
            ways = [way_by_words(scheme, base[1][index], mine[1][index], yours[1][index]) for index in range(many)]
            self.assertEqual([way_of(scheme, base, mine, yours, index) for index in range(many)], ways)
            others_ = sorted({ways[index] for index in range(many) if index not in kept})
            self.assertEqual([table[0] for table in found], [base[0], mine[0], yours[0]])
            for elder, table in zip((base, mine, yours), found):
                self.assertTrue(is_table(scheme, table))
                self.assertEqual(table[1][:len(kept)], tuple(elder[1][index] for index in kept))
                self.assertEqual(len(table[1]), len(kept) + len(others_))
                for row, way in zip(table[1][len(kept):], others_):
                    lot = [elder[1][index] for index in range(many) if index not in kept and ways[index] == way]
                    self.assertEqual([told(number) for number in row], [sum(told(one[place]) for one in lot) for place in range(len(row))])
                if broken_by_words(scheme, elder) == ():
                    seen["good"] += 1
                    self.assertEqual(broken_in(scheme, table), ())
            merged, groups = merge_tables_by_words(scheme, *found)
            self.assertEqual(groups, ())
            self.assertEqual(merged[0], merge[0])
            self.assertEqual(merged, merged_tables(scheme, *found))
            for place in range(len(scheme[2][0])):
                self.assertEqual(sum(told(row[place]) for row in merged[1]), sum(told(row[place]) for row in merge[1]))
            for row, way in zip(merged[1][len(kept):], others_):
                lot = [merge[1][index] for index in range(many) if index not in kept and ways[index] == way]
                self.assertEqual([told(number) for number in row], [sum(told(one[place]) for one in lot) for place in range(len(row))])
            seen["fewer"] += len(found[0][1]) < many
            seen["alike"] += any("alike" in way for way in ways)
            seen["broken"] += is_breaking(scheme, (base, mine, yours)) is True
        self.assertGreater(min(seen[key] for key in ("good", "fewer", "alike")), 40)


class Always(TimedCase):
    def check(self, scheme):
        """Check what is told of a SCHEME; return whether it survives always."""
        before = copy.deepcopy(scheme)
        found, tables = survives_always(scheme), breaking_tables(scheme)
        self.assertIs(found, tables is None)
        if tables is not None:
            self.assertIs(is_breaking(scheme, tables), True)
            self.assertTrue(is_breaking_by_words(scheme, tables))
            self.assertLessEqual(len(tables[0][1]), 4 ** len(scheme[2][1]) + 1)
        self.assertEqual((scheme, survives_always(scheme), breaking_tables(scheme)), (before, found, tables))
        return found

    def test_ordinary(self):
        row = lambda sign, *numbers: ("row", sign, numbers)
        for scheme, found in (
            (SHOP, False), (SHOP[:3] + (SHOP[3][:1],), True), (SHOP[:3] + (SHOP[3][1:],), False), (SHOP[:3] + ((),), True), (("strict",) + SHOP[1:], False),
            (("usual", HEAD, TWO, (row("<=", 1, -1),)), False), (("usual", HEAD, TWO, (row("<=", 1, 0), row("<=", 0, 1))), True), (("usual", HEAD, TWO, (row("<=", 1, 1),)), False), (("usual", HEAD, TWO, (row("=", 1, -1),)), True), (("usual", HEAD, THREE[:1] + ((("x", "z"), ("y",)), ()), (row("=", 1, 1, 1),)), True),
            (("usual", HEAD, (("x", "y"), (("x", "y"),), ()), (row("<=", 1, 1),)), True), (("usual", HEAD, (("x", "y"), (("x",),), ("y",)), (row("=", 1, 1),)), False), (("strict", HEAD, (("x", "y"), (("x",),), ("y",)), (row("=", 1, 1),)), True),
            (("usual", (("p", "q"), (("p",), ("q",)), ()), ROW, (("head", "<=", (1, 1), 3),)), False), (("usual", (("p", "q"), (("p", "q"),), ()), ROW, (("head", "<=", (1, 1), 3),)), True), (("usual", (("p", "q"), (("p",),), ("q",)), ROW, (("head", "<=", (0, 1), 3),)), False),
            (("usual", NOTHING, ROW, (("sum", "<=", (), (1,), 4),)), False), (("usual", NOTHING, ROW, (("sum", "=", (), (1,), 4),)), False), (("strict", NOTHING, ROW, (("sum", "=", (), (1,), 4),)), True), (("usual", NOTHING, ROW, (("sum", "=", (), (1,), 4), row("=", 1))), True),
            (("usual", NOTHING, ROW, (("sum", "<=", (), (0,), 4),)), True), (("usual", NOTHING, ROW, (row("=", 1), ("sum", "<=", (), (1,), 0))), True), (("strict", NOTHING, ROW, (row("<=", -1), row("<=", 1))), True),
        ):
            self.assertIs(self.check(scheme), found, scheme)

    def test_no_good_table(self):
        for rules in ((("head", "<=", (0,), -1),), (("sum", "=", (0,), (0,), 1), ("row", "<=", (1,))), (("head", "=", (1,), 1), ("sum", "<=", (-1,), (1,), -9), ("row", "<=", (-1,)))):
            scheme = ("usual", HEAD, ROW, rules)
            self.assertEqual(broken_in(scheme, (((1, 1),), ())) == (), False)
            self.assertIs(self.check(scheme), True)
            self.assertIsNone(breaking_tables(scheme))

    def test_rows_of_two_groups(self):
        """Where no rule has to do with sums one row is enough; where some has, TooMany(1)."""
        for way in ("usual", "strict"):
            for rules in ((("row", "<=", (1, 1)),), (("row", "<=", (1, 0)), ("head", "<=", (1,), 3)), (("row", "=", (1, 1)), ("row", "<=", (1, 0)))):
                self.check((way, HEAD, TWO, rules))
            for rules in ((("sum", "<=", (0,), (0, 0), 0),), (("row", "<=", (1, 1)), ("sum", "=", (1,), (1, 0), 3)), (("sum", "=", (0,), (0, 0), 1),)):
                for call in (survives_always, breaking_tables):
                    with self.assertRaises(TooMany) as caught:
                        call((way, HEAD, TWO, rules))
                    self.assertEqual(caught.exception.most, 1)
            for rules in ((), (("row", "<=", (1, 1, 0)),), (("sum", "<=", (0,), (0, 0, 0), 0),), (("head", "<=", (0,), -1),)):
                for call in (survives_always, breaking_tables):
                    with self.assertRaises(TooMany) as caught:
                        call((way, HEAD, THREE, rules))
                    self.assertEqual(caught.exception.most, 2)
        self.assertIs(is_breaking(("usual", HEAD, THREE, ()), SMALL), False)

    def test_by_chance(self):
        """[10]: by the made BOOKS of up to as many rows as are enough, as survives decides of them; and by programs over all MERGES."""
        seen = {True: 0, False: 0}
        for seed in range(260):
            draw = random.Random(seed)
            scheme = made_scheme(draw, 3)
            groups, sums = len(scheme[2][1]), any(rule[0] == "sum" for rule in scheme[3])
            if groups > 2 or (groups == 2 and sums) or len(scheme[1][0]) + len(scheme[2][0]) * (2, 5, 1)[groups] > 8:
                continue
            found = self.check(scheme)
            seen[found] += 1
            living = []
            for many in range(0 if scheme[1][0] else 1, (2, 5, 2)[groups] + 1):
                book = made_book(scheme, many)
                if no_stand(book) is not None or len(book[0][0]) > 8:
                    continue
                try:
                    living.append(survives(book))
                except TooMany:
                    continue
                if len(book[0][0]) <= 3:
                    self.assertIs(living[-1], do_all_merges_keep(book))
            self.assertIs(found, all(living), scheme)
        self.assertGreater(min(seen.values()), 40)

    def test_tables_by_chance(self):
        """No three TABLES of any number of rows break a SCHEME that survives always."""
        tried = 0
        for seed in range(400):
            draw = random.Random(seed)
            scheme = made_scheme(draw, 3, draw.random() < 0.7)
            try:
                found = survives_always(scheme)
            except TooMany:
                continue
            for _ in range(6):
                base = made_table(draw, scheme, draw.randint(0, 9))
                tables = (base, near_table(draw, scheme, base), near_table(draw, scheme, base))
                is_so = is_breaking_by_words(scheme, tables)
                self.assertIs(is_breaking(scheme, tables), is_so)
                self.assertFalse(found and is_so)
                tried += found and all(broken_in(scheme, table) == () for table in tables) and merge_tables_by_words(scheme, *tables)[1] == ()
        self.assertGreater(tried, 60)


class Judge(TimedCase):
    def test_is_breaking(self):
        for scheme, thing, found in (
            (SHOP, (BASE, MINE, YOURS), True), (SHOP, SMALL, True), (SHOP, (BASE, YOURS, MINE), True), (SHOP, (BASE, BASE, YOURS), False), (SHOP, (MINE, BASE, YOURS), False), (SHOP, [BASE, MINE, YOURS], False), (SHOP, (BASE, MINE), False),
            (SHOP, (BASE, MINE, SMALL[2]), False), (SHOP, (SMALL[0], MINE, YOURS), False), (SHOP[:3] + ((),), SMALL, False), (STOCK, SMALL, False), (BARE, ((), (), ()), False),
        ):
            self.assertIs(is_breaking(scheme, thing), found)
        many = tuple((table[0], table[1] * 200) for table in (BASE, MINE, YOURS))
        self.assertIs(self.quick(is_breaking, SHOP, many), False)
        wide = tuple((((1000, 1),), (((0, 1),),) * 1996 + table[1] + (((998, 1),),)) for table in (BASE, MINE, YOURS))
        self.assertIs(self.quick(is_breaking, SHOP, wide), True)

    def test_of_any_value(self):
        for thing in ANY_VALUES:
            self.assertIs(is_breaking(SHOP, thing), False)
            self.assertIs(is_breaking(SHOP, (BASE, thing, YOURS)), False)
        for scheme in (SHOP, ("usual", NOTHING, ROW, (("sum", "<=", (), (1,), 4),))):
            for tables in (breaking_tables(scheme), SMALL):
                for thing in others(tables):
                    self.assertIs(is_breaking(scheme, thing), is_breaking_by_words(scheme, thing))

    def test_at_the_bounds(self):
        for size, seed in itertools.product((3, 10 ** 40 - 1), range(8)):
            draw = random.Random(seed)
            number = lambda: draw.randint(-size, size)
            head = (("p", "q", "r"), draw.choice(((("p",), ("q", "r")), (("p",), ("q",)))), ())
            head = head if head[1][1] != ("q",) else head[:2] + (("r",),)
            row = (("x", "y", "z"), draw.choice(((("x", "y", "z"),), (("x", "z"),))), ())
            row = row if len(row[1][0]) == 3 else row[:2] + (("y",),)
            reading = lambda: tuple(number() for _ in range(3))
            rules = [("sum", "<=", reading(), reading(), abs(number())) for _ in range(2)] + [("row", "<=", reading()), ("row", draw.choice(("=", "<=")), reading()), ("sum", "=", reading(), reading(), 0), ("head", "<=", reading(), abs(number()))]
            scheme = (draw.choice(("usual", "strict")), head, row, tuple(rules))
            found = self.quick(survives_always, scheme)
            tables = self.quick(breaking_tables, scheme)
            self.assertIs(found, tables is None)
            if tables is not None:
                self.assertIs(is_breaking(scheme, tables), True)

    def test_stands(self):
        self.assertEqual(made_stand(SMALL[1]), ((2, 1), (2, 1), (0, 1)))
