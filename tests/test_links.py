"""[32]: LINKINGS, and added cells that have to be taken."""

import copy
import itertools
import random

from heldthrough.booktexts import read_book
from heldthrough.errors import NoStand, TooMany
from heldthrough.frames import added_places, linked, taken
from heldthrough.heldlimits import holds, survives
from heldthrough.histories import first_broken, is_history
from heldthrough.limits import no_stand
from heldthrough.links import finer_breaks, finer_ones, is_finer, is_least_linking, is_linking, joined, linkings, rule_linkings, takings
from tests.makers import made_great_rules, made_ruled_book
from tests.test_crossing import named, singles
from tests.test_guarantees import made_run
from tests.test_limits import NONE
from tests.test_safe import CELLS, crowded
from tests.timed import TimedCase
from tests.values import ANY_VALUES

SHEET = read_book("sheet usual\ncells a b c\ngroup a\ngroup b\ngroup c\nrule 1 a 1 b <= 1\nrule 1 c <= 5")
STOCK = read_book("sheet strict\ncells x y\nadded x y\nrule -1 x <= 0\nrule 1 y = 2")
# Two sums, which have one cell in common: each pair of cells of a sum can be exchanged.
SUMS = (singles("abcde", "strict"), (("<=", (1, 1, 0, 0, 0), 4), ("<=", (0, 0, 1, 1, 0), 4), ("<=", (0, 0, 0, 1, 1), 4)))


def all_linkings(many):
    """Return the list of all LINKINGS of so many groups: by a look at all tuples of kinds."""
    found = set()
    for kinds in itertools.product(range(many), repeat=many):
        lots = [tuple(index for index in range(many) if kinds[index] == kind) for kind in range(many)]
        found.add(tuple(sorted(lot for lot in lots if len(lot) > 1)))
    return sorted(found)


def is_finer_by_words(one, other):
    """Tell whether one LINKING is FINER, as the document says."""
    return one != other and all(any(set(lot) <= set(wide) for wide in other) for lot in one)


def least(found):
    """Return the ascending tuple of the LINKINGS than which none of the others is FINER."""
    return tuple(sorted(one for one in found if not any(is_finer_by_words(other, one) for other in found)))


class Linkings(TimedCase):
    def test_is_linking(self):
        frame = singles("abcd")
        for thing, found in (((), True), (((0, 1),), True), (((0, 1), (2, 3)), True), (((0, 3), (1, 2)), True), (((0, 1, 2, 3),), True), (((0,),), False), (((),), False), (((1, 0),), False), (((0, 4),), False),
                             (((2, 3), (0, 1)), False), (((0, 1), (1, 2)), False), (((0, 1), (0, 1)), False), ([], False), ([(0, 1)], False), (([0, 1],), False), (((False, True),), False), (((0, True),), False), (((0, 1), ()), False), (0, False), (None, False)):
            self.assertIs(is_linking(frame, thing), found, thing)
        for thing in ANY_VALUES:
            self.assertIs(is_linking(frame, thing), thing == () and type(thing) is tuple or (type(thing) is tuple and thing in (((0, 1),),) and type(thing[0][0]) is int))
        self.assertIs(is_linking((("a",), (), ("a",), "usual"), ()), True)
        self.assertIs(is_linking((("a",), (), ("a",), "usual"), ((0, 1),)), False)
        self.assertEqual([one for one in all_linkings(4) if not is_linking(frame, one)], [])
        self.assertEqual(len(all_linkings(5)), 52)

    def test_is_finer(self):
        for one, other in itertools.product(all_linkings(4), repeat=2):
            self.assertIs(is_finer(one, other), is_finer_by_words(one, other))

    def test_joined(self):
        self.assertEqual(joined(SHEET, ((0, 2),)), (linked(SHEET[0], ((0, 2),)), SHEET[1]))
        self.assertEqual(joined(SHEET, ((0, 2),))[0][1], (("a", "c"), ("b",)))
        self.assertEqual(joined(SHEET, ()), SHEET)
        self.assertEqual(joined(STOCK, ()), STOCK)

    def test_finer_ones(self):
        for linking, found in (((), ()), (((0, 1),), ((),)), (((0, 1, 2),), (((0, 1),), ((0, 2),), ((1, 2),))), (((0, 1), (2, 3)), (((0, 1),), ((2, 3),))), (((0, 2, 5), (1, 4)), (((0, 2), (1, 4)), ((0, 2, 5),), ((0, 5), (1, 4)), ((1, 4), (2, 5))))):
            self.assertEqual(finer_ones(linking), found)
        self.assertEqual(len(finer_ones((tuple(range(8)),))), 127)
        for many in (3, 4, 5):
            for linking in all_linkings(many):
                size = lambda one: many - sum(len(lot) - 1 for lot in one)
                words = tuple(one for one in all_linkings(many) if is_finer_by_words(one, linking) and size(one) == size(linking) + 1)
                self.assertEqual(finer_ones(linking), words)


class Surviving(TimedCase):
    def test_ordinary(self):
        self.assertEqual(linkings(SHEET), (((0, 1),),))
        self.assertEqual((rule_linkings(SHEET, 0), rule_linkings(SHEET, 1)), ((((0, 1),),), ((),)))
        self.assertEqual((linkings(STOCK), rule_linkings(STOCK, 0), rule_linkings(STOCK, 1)), ((), (), ((),)))
        self.assertEqual(linkings(SUMS), (((0, 1), (2, 3, 4)),))
        self.assertEqual([rule_linkings(SUMS, index) for index in range(3)], [(((0, 1),),), (((2, 3),),), (((3, 4),),)])
        self.assertEqual(linkings((SHEET[0], ())), ((),))
        self.assertEqual(linkings((singles("a"), (("<=", (1,), 2),))), ((),))
        self.assertEqual(linkings(((("x",), (), ("x",), "usual"), ())), ((),))
        self.assertEqual(linkings(((("x",), (), ("x",), "usual"), (("<=", (1,), 3),))), ())
        sums = (singles("abc", "usual"), (("=", (1, 1, 1), 6),))
        self.assertEqual(linkings(sums), (((0, 1),), ((0, 2),), ((1, 2),)))

    def test_by_chance(self):
        """By a look at all LINKINGS, each one by itself."""
        many_found = 0
        for seed in range(110):
            draw = random.Random(seed)
            book = made_ruled_book(draw, draw.choice((1, 2, 3, 3, 4, 4)))
            if seed % 3:
                frame = book[0]
                book = ((frame[0], tuple((cell,) for cell in frame[0]), (), frame[3]), book[1])
            before = copy.deepcopy(book)
            told = all_linkings(len(book[0][1]))
            found = linkings(book)
            living = [one for one in told if survives(joined(book, one))]
            self.assertEqual(found, least(living))
            many_found += len(found) > 1
            for one in told:
                self.assertIs(is_least_linking(book, one), one in found)
                self.assertTrue(one not in living or all(other in living for other in told if is_finer_by_words(one, other)))
            for index, rule in enumerate(book[1][:2]):
                self.assertEqual(rule_linkings(book, index), least([one for one in told if holds(joined(book, one), rule)]))
            for one in found[:2]:
                breaks = finer_breaks(book, one)
                self.assertEqual(len(breaks), len(finer_ones(one)))
                for finer, history in zip(finer_ones(one), breaks):
                    other = joined(book, finer)
                    self.assertEqual((is_history(other, history), len(history), first_broken(other, history)), (True, 4, 3))
                history, _ = made_run(draw, joined(book, one), 8)
                self.assertIsNone(first_broken(joined(book, one), history))
            self.assertEqual((book, linkings(book)), (before, found))
        self.assertGreater(many_found, 8)

    def test_finer_breaks(self):
        self.assertEqual(finer_breaks(SHEET, ()), ())
        self.assertEqual([history is None for history in finer_breaks(SHEET, ((0, 1, 2),))], [True, False, False])
        self.assertEqual([is_least_linking(SHEET, one) for one in ((), ((0, 1),), ((0, 2),), ((0, 1, 2),))], [False, True, False, False])

    def test_errors(self):
        for book in NONE:
            for call, more in ((linkings, ()), (rule_linkings, (0,)), (is_least_linking, ((),)), (is_least_linking, (((0, 1),),)), (finer_breaks, ((),)), (finer_breaks, (((0, 1),),)), (takings, ())):
                with self.assertRaises(NoStand) as caught:
                    call(book, *more)
                self.assertEqual(caught.exception.paper, no_stand(book))

    def test_more_than_five_groups(self):
        six = (singles("abcdef"), (("<=", (1, 1, 0, 0, 0, 0), 3),))
        for rules in (six[1], six[1] + (("=", (0,) * 6, 1),)):
            for call, more in ((linkings, ()), (rule_linkings, (0,))):
                with self.assertRaises(TooMany) as caught:
                    call((six[0], rules), *more)
                self.assertEqual(caught.exception.most, 5)
        self.assertIs(is_least_linking(six, ((0, 1),)), True)
        self.assertIs(is_least_linking(six, ((0, 1), (2, 3))), False)
        self.assertEqual([history is None for history in finer_breaks(six, ((0, 1), (2, 3)))], [True, False])
        five = (singles("abcde"), (("<=", (1, 1, 0, 0, 0), 3),))
        self.assertEqual(linkings(five), (((0, 1),),))

    def test_too_many(self):
        """As survives and holds raise it, for the BOOK JOINED."""
        for call, more in ((is_least_linking, ((),)), (finer_breaks, (((0, 1),),))):
            found = self.quick(call, crowded(), *more)
            self.assertIsInstance(found, TooMany)
            self.assertEqual(found.most, 400)
        # Parted in two, groups CROSS so much that there are few FAMILIES.
        self.assertIs(self.quick(is_least_linking, crowded(), (tuple(range(8)),)), False)
        self.assertEqual(self.quick(finer_breaks, crowded(), (tuple(range(8)),)), (None,) * 127)

    def test_at_the_bounds(self):
        for size in (3, 10 ** 40 - 1):
            for seed in range(4):
                draw = random.Random(seed)
                frame = (CELLS, (CELLS[:2], CELLS[2:4], CELLS[4:5], CELLS[5:7], CELLS[7:]), (), "usual" if seed % 2 else "strict")
                rules = made_great_rules(draw, CELLS, size, seed)
                found = self.quick(linkings, (frame, rules))
                if isinstance(found, tuple):
                    self.assertTrue(all(self.quick(is_least_linking, (frame, rules), one) for one in found))
                self.quick(rule_linkings, (frame, rules), 15)
                self.quick(finer_breaks, (singles(CELLS, frame[3]), rules), (tuple(range(8)),))


class Takings(TimedCase):
    def by_words(self, book):
        """Return what takings tells, by a look at all tuples of PLACES."""
        places, found = added_places(book[0]), []
        for size in range(len(places) + 1):
            for some in itertools.combinations(places, size):
                frame = book[0]
                for place in some:
                    frame = taken(frame, book[0][0][place])
                if frame[1]:
                    frame = linked(frame, (tuple(range(len(frame[1]))),))
                if survives((frame, book[1])):
                    found.append(some)
        return tuple(sorted(one for one in found if not any(set(other) < set(one) for other in found)))

    def test_ordinary(self):
        self.assertEqual(takings(STOCK), ((0,),))
        self.assertEqual(takings(SHEET), ((),))
        frame = (("x", "y", "z"), (), ("x", "y", "z"), "strict")
        self.assertEqual(takings((frame, (("<=", (1, 1, 0), 3),))), ((0, 1),))
        self.assertEqual(takings((frame, (("=", (1, 1, 0), 3),))), ((),))
        self.assertEqual(takings((frame, (("=", (1, 1, 0), 3), ("<=", (1, 0, 0), 2)))), ((0,), (1,)))

    def test_by_chance(self):
        several = 0
        for seed in range(200):
            draw = random.Random(seed)
            book = made_ruled_book(draw, draw.randint(1, 5))
            if len(book[0][2]) > 4:
                continue
            found = takings(book)
            self.assertEqual(found, self.by_words(book))
            self.assertNotEqual(found, ())
            several += len(found) > 1
        self.assertGreater(several, 2)

    def test_more_than_four_cells(self):
        cells = CELLS[:5]
        for rules in ((), (("=", (0,) * 5, 1),)):
            with self.assertRaises(TooMany) as caught:
                takings(((cells, (), cells, "usual"), rules))
            self.assertEqual(caught.exception.most, 4)
        self.assertEqual(takings(((cells, (("a",),), cells[1:], "usual"), (("<=", (0, 1, 1, 1, 1), 2),))), ((1, 2, 3, 4),))
        with self.assertRaises(NoStand):
            takings(((cells, (("a",),), cells[1:], "usual"), (("=", (0,) * 5, 1),)))

    def test_wide(self):
        """What is not asked for needs no bound: forty-one cells, four of them added."""
        frame = (named(12), tuple((cell,) for cell in named(12)[:8]), named(12)[8:], "usual")
        self.assertEqual(takings((frame, (("<=", (0,) * 8 + (1, 0, 0, 0), 2),))), ((8,),))
