"""[30]: branches over one base, and one merge that breaks a BOOK."""

import copy
import random
from fractions import Fraction

from heldthrough.books import broken, with_rule
from heldthrough.errors import NoStand, TooMany
from heldthrough.fractions import vector_of
from heldthrough.frames import with_way
from heldthrough.heldlimits import greatest_held, survives
from heldthrough.histories import first_broken, is_history, stands_of
from heldthrough.limits import greatest, no_stand
from heldthrough.onemerge import breaking, come_to, farthest
from tests.linear import touched_by_words
from tests.makers import boxed, good, made_great_rules, made_ruled_book, merge_by_words, numbers_of, told
from tests.merge_words import do_all_merges_keep, greatest_merge
from tests.test_held import BOOK, DRIFTING, EQUAL, LIMITS, LINKED, LOOSE
from tests.test_limits import NONE
from tests.test_safe import CELLS, PLANE, crowded, wide
from tests.timed import TimedCase
from tests.words import dot

FREE = (PLANE, ())
TRIPLE = ((("a", "b", "c"), (("a",), ("b",), ("c",)), (), "strict"), (("<=", (1, 1, 1), 6), ("<=", (-1, 0, 0), 0), ("<=", (0, -1, 0), 0), ("<=", (0, 0, -1), 0)))


def are_branches(book, base, stands):
    """Tell whether STANDS are branches over a base, as the document defines them."""
    if not all(good(book, stand) for stand in (base, *stands)):
        return False
    lots = [touched_by_words(book[0], [one - old for one, old in zip(numbers_of(stand), numbers_of(base))]) for stand in stands]
    return all(not lots[i] & lots[j] for i in range(len(lots)) for j in range(i))


def merged_one_by_one(book, base, stands):
    """Return what branches give if they are merged one after the other over the base."""
    made = stands[0]
    for stand in stands[1:]:
        made, clashing = merge_by_words(book[0], base, made, stand)
        if clashing:
            return None
    return made


class ComeTo(TimedCase):
    def test_ordinary(self):
        self.assertEqual(come_to(vector_of((0, 0)), (vector_of((3, 0)), vector_of((0, 5)))), vector_of((3, 5)))
        self.assertEqual(come_to(vector_of((1, 2)), (vector_of((1, 7)),)), vector_of((1, 7)))
        self.assertEqual(come_to(((1, 2), (0, 1)), (((1, 2), (1, 3)), ((1, 2), (1, 2)), ((5, 2), (0, 1)))), ((5, 2), (5, 6)))
        self.assertEqual(come_to(vector_of((4,)), (vector_of((4,)), vector_of((4,)))), vector_of((4,)))


class Farthest(TimedCase):
    def check(self, book, reading, k, found):
        """Check that a value tells branches, as the document describes it; return the VALUE, None for an endless one."""
        base, stands = found[-4:-2] if found[0] == "endless" else found[2:]
        self.assertEqual(len(stands), k)
        self.assertTrue(are_branches(book, base, stands))
        self.assertEqual(come_to(base, stands), merged_one_by_one(book, base, stands))
        start = dot(reading, numbers_of(come_to(base, stands)))
        if found[0] == "at":
            self.assertEqual(len(found), 4)
            self.assertEqual(told(found[1]), start)
            return start
        self.assertEqual((found[0], len(found)), ("endless", 5))
        way, ways = found[3:]
        grown = []
        for times in (Fraction(1), Fraction(1, 3), Fraction(10 ** 9)):
            later = [tuple((total.numerator, total.denominator) for total in [a + times * b for a, b in zip(numbers_of(one), numbers_of(along))])
                     for one, along in zip((base, *stands), (way, *ways))]
            self.assertTrue(are_branches(book, later[0], tuple(later[1:])))
            grown.append((dot(reading, numbers_of(come_to(later[0], tuple(later[1:])))) - start) / times)
        self.assertGreater(grown[0], 0)
        self.assertEqual(len(set(grown)), 1)
        return None

    def test_ordinary(self):
        for book, reading, k, value in (
            (BOOK, (1, 1), 1, 10), (BOOK, (1, 1), 2, 20), (BOOK, (1, 1), 3, 20), (BOOK, (1, 0), 2, 10), (BOOK, (-1, -1), 3, 0), (BOOK, (0, 0), 1, 0), (LINKED, (1, 1), 3, 10), (EQUAL, (1, 0), 2, 3),
            (EQUAL, (1, 1), 3, 4), (TRIPLE, (1, 1, 1), 1, 6), (TRIPLE, (1, 1, 1), 2, 12), (TRIPLE, (1, 1, 1), 3, 18), (TRIPLE, (1, 2, 3), 2, 30), (TRIPLE, (1, -1, 0), 3, 6),
            (boxed(FREE, 0), (1, 1), 2, 0), (boxed(LOOSE, 2), (0, 1), 1, 2), (boxed(LOOSE, 2), (0, 1), 2, 6), (boxed(LOOSE, 2), (0, 1), 3, 10), (boxed(LOOSE, 2), (1, 1), 3, 12),
        ):
            found = farthest(book, reading, k)
            self.assertEqual(self.check(book, reading, k, found), value, (book, reading, k))

    def test_endless(self):
        for book, reading, k in ((FREE, (1, 0), 1), (FREE, (0, -1), 3), (EQUAL, (-1, 0), 2), (LOOSE, (-1, 0), 1), ((PLANE, (("<=", (1, 1), 3),)), (1, 1), 2), (LOOSE, (0, 1), 2)):
            self.assertIsNone(self.check(book, reading, k, farthest(book, reading, k)))
        self.assertEqual(farthest((PLANE, (("<=", (1, 1), 3),)), (1, 1), 1)[:2], ("at", (3, 1)))
        self.assertEqual(farthest(LOOSE, (0, 1), 1)[:2], ("at", (2, 1)))

    def test_alike_groups_are_no_branches(self):
        """In the usual way alike changes merge, and may go farther: each clerk takes the same 3 into a cell, from a cell of his own."""
        book = (DRIFTING[0], DRIFTING[1] + (("<=", (0, 1, 1), 1),))
        self.assertGreater(greatest_merge(book, (-1, -1, -1)), self.check(book, (-1, -1, -1), 2, farthest(book, (-1, -1, -1), 2)))

    def test_by_chance(self):
        words, risen = {"at": 0, "endless": 0}, 0
        for seed in range(200):
            draw = random.Random(seed)
            book = made_ruled_book(draw, draw.randint(1, 4), draw.choice(("strict", "strict", "usual")))
            if draw.random() < 0.4:
                book = boxed(book, draw.randint(2, 6))
            if no_stand(book) is not None:
                continue
            reading, before = tuple(draw.randint(-2, 2) for _ in book[0][0]), copy.deepcopy(book)
            values = []
            for k in (1, 2, 3):
                found = farthest(book, reading, k)
                words[found[0]] += 1
                values.append(self.check(book, reading, k, found))
                self.assertEqual((book, farthest(book, reading, k)), (before, found))
            one, held = greatest(book, reading), greatest_held(book, reading)
            self.assertEqual(values[0], told(one[1]) if one[0] == "at" else None)
            if book[0][3] == "strict":
                self.assertEqual(values[1], greatest_merge(book, reading))
            order = [float("inf") if value is None else value for value in values]
            self.assertEqual(order, sorted(order))
            if held[0] == "at":
                self.assertLessEqual(order[2], told(held[1]))
            risen += order[0] < order[1]
        self.assertGreater(min(words.values()), 50)
        self.assertGreater(risen, 5)

    def test_too_many(self):
        """It is asked for ahead of all else: 2 to the power of 8 and 3 to the power of 5 are let."""
        for k, most in ((1, 30), (2, 8), (3, 5)):
            for many, let in ((most, True), (most + 1, k == 1)):
                cells = tuple("".join((chr(97 + j // 26), chr(97 + j % 26))) for j in range(many))
                frame = (cells, tuple((cell,) for cell in cells), (), "usual")
                for rules in ((), (("<=", (0,) * many, -1),)):
                    found = self.quick(farthest, (frame, rules), (0,) * many, k)
                    if not let:
                        self.assertIsInstance(found, TooMany)
                        self.assertEqual(found.most, 300)
                    elif rules:
                        self.assertIsInstance(found, NoStand)
                        self.assertEqual(found.paper, no_stand((frame, rules)))
                    else:
                        self.assertEqual(found[:2], ("at", (0, 1)))

    def test_at_the_bounds(self):
        for size in (9, 10 ** 40 - 1):
            for groups, added, k in ((8, 0, 2), (5, 3, 3), (3, 5, 3), (5, 0, 3)):
                draw = random.Random(groups)
                cells = CELLS[:8 - added]
                parts = tuple(cells[k::groups] for k in range(groups))
                frame = (CELLS, parts, CELLS[8 - added:], "strict")
                limits = [("<=", tuple(-int(j == place) for j in range(8)), draw.randint(0, size)) for place in range(8)]
                limits += [("<=", tuple(draw.randint(1, size) for _ in CELLS), draw.randint(1, size)) for _ in range(8)]
                reading = tuple(draw.randint(-size, size) for _ in CELLS)
                self.check((frame, tuple(limits)), reading, k, self.quick(farthest, (frame, tuple(limits)), reading, k))
        for size, groups in ((9, tuple((cell,) for cell in CELLS)), (10 ** 40 - 1, (CELLS[:3], CELLS[3:4], CELLS[4:5], CELLS[5:6], CELLS[6:]))):
            draw = random.Random(6)
            rules = tuple(("<=", tuple(draw.randint(-size, size) for _ in CELLS), draw.randint(0, size)) for _ in range(16))
            book = ((CELLS, groups, (), "strict"), rules)
            self.check(book, rules[0][1], 2, self.quick(farthest, book, rules[0][1], 2))


class Breaking(TimedCase):
    def check(self, book, history):
        """Check that a value is a HISTORY of four DEEDS whose merge is not GOOD."""
        self.assertTrue(is_history(book, history))
        self.assertEqual([deed[:2] if deed[0] == "edit" else deed[:1] for deed in history], [("first",), ("edit", 0), ("edit", 0), ("merge",)])
        self.assertEqual(history[3], ("merge", 1, 2, 0))
        self.assertEqual(first_broken(book, history), 3)
        stands = [numbers_of(stand) for stand in stands_of(book, history)]
        return [[one - old for one, old in zip(stand, stands[0])] for stand in stands[1:]]

    def test_ordinary(self):
        for book in (BOOK, DRIFTING, LOOSE, TRIPLE, (PLANE, (("<=", (1, 1), 3), ("<=", (2, 2), 7))), (with_way(PLANE, "usual"), LIMITS), (DRIFTING[0], DRIFTING[1][:1])):
            self.check(book, breaking(book))
        for book in (LINKED, EQUAL, FREE, boxed(FREE, 0), boxed(FREE, 5), boxed(BOOK, 5), (PLANE, (("<=", (0, 0), 0),)), (PLANE, (("<=", (1, 0), 3), ("<=", (0, 1), 3), ("<=", (1, 1), 6)))):
            self.assertIsNone(breaking(book), book)

    def test_added_cell_alone(self):
        """Both branches add to one cell, each of them as much as there is room for."""
        mine, yours, both = self.check(LOOSE, breaking(LOOSE))
        self.assertEqual((mine[0], yours[0]), (0, 0))
        self.assertEqual(both[1], mine[1] + yours[1])

    def test_equal_limits_that_are_told_twice(self):
        """A RULE that is told twice, or by a multiple, has no STAND that meets it alone."""
        rules = (("<=", (1, 1), 3), ("<=", (2, 2), 6), ("<=", (1, 1), 3), ("<=", (3, 3), 10), ("<=", (0, 0), 0))
        self.check((PLANE, rules), breaking((PLANE, rules)))

    def test_redundant_rules_break_nothing(self):
        """A RULE that isn't SAFE, but follows from SAFE ones, holds; one that is met at a corner alone as well."""
        rules = (("<=", (1, 0), 3), ("<=", (0, 1), 3))
        for bound, survive in ((7, True), (6, True), (5, False)):
            book = (PLANE, rules + (("<=", (1, 1), bound),))
            self.assertIs(survives(book), survive)
            self.assertIs(breaking(book) is None, survive)
            if not survive:
                self.check(book, breaking(book))
        corner = (PLANE, rules + (("<=", (1, 1), 6), ("<=", (-1, -1), 0)))
        mine, yours, both = self.check(corner, breaking(corner))
        self.assertLess(sum(both), 0)

    def test_greatest_value_and_beyond(self):
        """Each VALUE that one merge of group-wise unlike branches has is let by a bound; a lesser bound is broken."""
        seen = 0
        for seed in range(120):
            draw = random.Random(seed)
            book = boxed(made_ruled_book(draw, draw.randint(2, 4), "strict"), draw.randint(2, 5))
            if no_stand(book) is not None:
                continue
            reading = tuple(draw.randint(-2, 2) for _ in book[0][0])
            one, two = greatest(book, reading), farthest(book, reading, 2)
            if told(two[1]) > told(one[1]) and told(one[1]).denominator == 1 and survives(book) is False:
                seen += 1
                ruled = with_rule(book, ("<=", reading, int(told(one[1]))))
                base, stands = two[2:]
                made = merged_one_by_one(ruled, base, stands)
                self.assertEqual(broken(ruled, base), ())
                self.assertIn(len(book[1]), broken(ruled, made))
                self.check(ruled, breaking(ruled))
        self.assertGreater(seen, 5)

    def test_by_chance(self):
        seen = {True: 0, False: 0}
        for seed in range(400):
            draw = random.Random(seed)
            book = made_ruled_book(draw, draw.randint(1, 5))
            if draw.random() < 0.3:
                book = boxed(book, draw.randint(2, 5))
            if no_stand(book) is not None:
                continue
            before, history = copy.deepcopy(book), breaking(book)
            self.assertIs(history is None, survives(book))
            if len(book[0][0]) < 4:
                self.assertIs(history is None, do_all_merges_keep(book))
            if history is not None:
                self.check(book, history)
            seen[history is None] += 1
            self.assertEqual((book, breaking(book)), (before, history))
        self.assertGreater(min(seen.values()), 80)

    def test_errors(self):
        for book in NONE:
            for call, more in ((breaking, ()), (farthest, ((1, 1), 2))):
                with self.assertRaises(NoStand) as caught:
                    call(book, *more)
                self.assertEqual(caught.exception.paper, no_stand(book))
        for book, most in ((crowded(), 400), (wide(), 40)):
            found = self.quick(breaking, book)
            self.assertIsInstance(found, TooMany)
            self.assertEqual(found.most, most)

    def test_at_the_bounds(self):
        for size in (3, 10 ** 40 - 1):
            for seed in range(6):
                draw = random.Random(seed)
                frame = (CELLS, tuple((cell,) for cell in CELLS), (), "usual" if seed % 2 else "strict")
                rules = made_great_rules(draw, CELLS, size, seed % 3)
                history = self.quick(breaking, (frame, rules))
                if not isinstance(history, TooMany):
                    self.check((frame, rules), history)
