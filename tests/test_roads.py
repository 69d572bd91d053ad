"""[31]: HISTORIES that come to a STAND, or beyond a bound."""

import copy
import itertools
import random
from fractions import Fraction
from math import lcm

from heldthrough.booktexts import read_book, read_vector
from heldthrough.directions import directions, inner
from heldthrough.errors import NoStand, NotInside, TooMany
from heldthrough.fractions import added, less, multiple, vector_of, whole
from heldthrough.frames import with_way
from heldthrough.held import place
from heldthrough.heldlimits import greatest_held, survives
from heldthrough.histories import is_history, stands_of
from heldthrough.limits import greatest, no_stand
from heldthrough.programs import solved
from heldthrough.roads import beyond, road
from tests.makers import boxed, good, made_great_rules, made_ruled_book, numbers_of, shown, told
from tests.merge_words import places_by_words
from tests.test_crossing import singles
from tests.test_held import BOOK, DRIFTING, EQUAL, LIMITS, LOOSE
from tests.test_limits import NONE
from tests.test_onemerge import FREE, TRIPLE, are_branches
from tests.test_safe import ADDED, CELLS, PLANE, crowded, wide
from tests.timed import TimedCase
from tests.words import dot

# Cells that differ from the next ones by at most 1: a thin strip along the line where all are equal.
STRIP = (PLANE, (("<=", (1, -1), 1), ("<=", (-1, 1), 1)))
ROPE = (singles("abc"), (("<=", (1, -1, 0), 1), ("<=", (-1, 1, 0), 1), ("<=", (0, 1, -1), 1), ("<=", (0, -1, 1), 1)))


def heap(cells, bound=1, way="strict"):
    """Return a BOOK of cells from 0 on whose sum is limited."""
    many = len(cells)
    return (singles(cells, way), tuple(("<=", tuple(-int(k == place) for k in range(many)), 0) for place in range(many)) + (("<=", (1,) * many, bound),))


def unknowns(frame, owners, k):
    """Return for each of base and k branches the list of unknowns in its cells, and how many there are; owners tell who may touch each group."""
    many = len(frame[0])
    rows, count = [list(range(many))], many
    for branch in range(k):
        row = list(range(many))
        free = [at for owner, places in zip(owners, places_by_words(frame)) if owner == branch for at in places]
        for at in free + [frame[0].index(cell) for cell in frame[2]]:
            row[at], count = count, count + 1
        rows.append(row)
    return rows, count


def do_branches_come(book, stand, k):
    """Tell whether k branches over some base come to a STAND: by a program for each way to share the groups out."""
    frame, numbers = book[0], numbers_of(stand)
    scale = lcm(*[number.denominator for number in numbers])
    for owners in itertools.product(range(k), repeat=len(frame[1])):
        rows, count = unknowns(frame, owners, k)
        lines = []
        for row in rows:
            for sign, reading, bound in book[1]:
                line = [0] * count
                for at, number in zip(row, reading):
                    line[at] += number
                lines.append((sign, tuple(line), bound * scale))
        for at, number in enumerate(numbers):
            line = [0] * count
            line[at] = 1 - k
            for row in rows[1:]:
                line[row[at]] += 1
            lines.append(("=", tuple(line), int(number * scale)))
        if solved(tuple(lines), (0,) * count)[0] != "none":
            return True
    return False


def farthest_share(book, index, begin, way, most):
    """Return how far one can go at once in a group: the greatest share of a way, by a program over two GOOD STANDS."""
    many, own = len(book[0][0]), list(places_by_words(book[0])[index])
    scale = lcm(*[number.denominator for number in begin + way + [most]])
    lines = [(sign, reading + (0,) * many + (0,), bound * scale) for sign, reading, bound in book[1]]
    lines += [(sign, (0,) * many + reading + (0,), bound * scale) for sign, reading, bound in book[1]]
    for at in range(many):
        one, other = [tuple(int(k == at) * sign for k in range(many)) for sign in (1, -1)]
        if at in own:
            lines.append(("=", one + (0,) * many + (0,), int(begin[at] * scale)))
            lines.append(("=", (0,) * many + tuple(number * scale for number in one) + (-int(way[at] * scale),), int(begin[at] * scale * scale)))
        else:
            lines.append(("=", other + one + (0,), 0))
    lines.append(("<=", (0,) * (2 * many) + (1,), int(most * scale)))
    found = solved(tuple(lines), (0,) * (2 * many) + (1,))
    return told(found[1]) / scale


def is_forked(history, k):
    """Tell whether a HISTORY has the DEEDS of k branches over one base."""
    merges = [("merge", 1, 2, 0)] + [("merge", k + branch - 2, branch, 0) for branch in range(3, k + 1)]
    return [deed[:2] for deed in history[1:k + 1]] == [("edit", 0)] * k and list(history[k + 1:]) == merges


class Roads(TimedCase):
    def check(self, book, stand, history):
        """Check that a value is a HISTORY of a first one, edits and merges, whose last VERSION has a STAND; return its length."""
        self.assertTrue(is_history(book, history))
        self.assertEqual(stands_of(book, history)[-1], stand)
        self.assertEqual([deed[0] for deed in history[1:] if deed[0] not in ("edit", "merge")], [])
        return len(history)

    def check_branches(self, book, history, k):
        """Check that a HISTORY is one of k branches, as the document tells their DEEDS."""
        self.assertTrue(is_forked(history, k))
        self.assertTrue(are_branches(book, history[0][1], [deed[2] for deed in history[1:k + 1]]))

    def check_steps(self, book, stand, history):
        """Check that a HISTORY goes by STEPS from the INNER STAND, group by group, each as far as possible; return how many there are."""
        many, steps = len(book[0][0]), (len(history) - 1) // 3
        self.assertEqual(len(history), 3 * steps + 1)
        here, goal, group = numbers_of(inner(book)), numbers_of(stand), 0
        self.assertEqual(history[steps][-1], inner(book))
        self.assertEqual([deed[:2] for deed in history[1:steps + 1]], [("edit", version) for version in range(steps)])
        for step in range(steps):
            at, base = steps + 1 + 2 * step, steps - 1 - step
            self.assertEqual(history[at][:2], ("edit", base))
            self.assertEqual(history[at + 1], ("merge", at - 1, at, base))
            while all(here[place] == goal[place] for place in places_by_words(book[0])[group]):
                group += 1
            places = list(places_by_words(book[0])[group])
            one, other = numbers_of(history[base][-1]), numbers_of(history[at][-1])
            self.assertEqual([one[place] for place in places], [here[place] for place in places])
            way = [goal[place] - here[place] if place in places else Fraction(0) for place in range(many)]
            moving = next(place for place in places if way[place] != 0)
            share = (other[moving] - one[moving]) / way[moving]
            self.assertEqual([b - a for a, b in zip(one, other)], [share * number for number in way])
            self.assertEqual(share, farthest_share(book, group, [here[place] if place in places else Fraction(0) for place in range(many)], way, Fraction(1)))
            here = [a + share * number for a, number in zip(here, way)]
        self.assertEqual(here, goal)
        return steps

    def test_good(self):
        for book, numbers in ((BOOK, (3, 7)), (BOOK, (0, 0)), (EQUAL, (3, 1)), (LOOSE, (2, 2)), (FREE, (5, -9)), (boxed(FREE, 0), (0, 0))):
            stand = vector_of(numbers)
            self.assertEqual(road(book, stand), (("first", stand),))

    def test_two_branches(self):
        for book, numbers in ((BOOK, (7, 7)), (BOOK, (10, 10)), (BOOK, (10, 3)), (LOOSE, (1, 4)), (DRIFTING, (3, 3, -3))):
            stand = vector_of(numbers)
            if book == DRIFTING:
                book = (with_way(DRIFTING[0], "strict"), DRIFTING[1][1:])
                self.assertEqual(self.check(book, stand, road(book, stand)), 1)
                continue
            history = road(book, stand)
            self.assertEqual(self.check(book, stand, history), 4)
            self.check_branches(book, history, 2)

    def test_more_branches(self):
        """As many branches as cells that have to be 1, as each STAND has only one; or as parts of 1 that come to an added cell."""
        for many in (2, 3, 4, 5):
            for way in ("usual", "strict"):
                book, stand = heap(CELLS[:many], way=way), vector_of((1,) * many)
                history = road(book, stand)
                self.assertEqual(self.check(book, stand, history), 2 * many)
                self.check_branches(book, history, many)
        lone = (ADDED, (("<=", (0, -1), 0), ("<=", (0, 1), 1)))
        for k in (2, 3, 4, 5, 6):
            for number in ((k, 1), (2 * k - 1, 2), (10 * k - 9, 10)):
                history = road(lone, ((7, 1), number))
                self.assertEqual(self.check(lone, ((7, 1), number), history), 2 * k)
                self.check_branches(lone, history, k)
        self.check(lone, vector_of((7, 7)), road(lone, vector_of((7, 7))))
        self.check(lone, vector_of((-7, 10 ** 9)), road(lone, vector_of((-7, 10 ** 9))))

    def test_least_branches(self):
        seen = {}
        for seed in range(150):
            draw = random.Random(seed)
            book = made_ruled_book(draw, draw.randint(2, 4))
            if draw.random() < 0.6:
                book = boxed(book, draw.randint(1, 3))
            if no_stand(book) is not None or survives(book):
                continue
            for _ in range(2):
                stand = self.far(draw, book)
                if good(book, stand):
                    continue
                before = copy.deepcopy(book)
                least = next((k for k in (2, 3) if do_branches_come(book, stand, k)), None)
                try:
                    history = road(book, stand)
                except NotInside:
                    seen["none"] = seen.get("none", 0) + 1
                    self.assertIsNone(least)
                    self.assertNotEqual(place(book, stand), "inside")
                    continue
                self.check(book, stand, history)
                if least is not None:
                    self.check_branches(book, history, least)
                seen[least] = seen.get(least, 0) + 1
                self.assertEqual((book, road(book, stand)), (before, history))
        self.assertGreater(min(seen[key] for key in (2, 3, None, "none")), 1)

    def far(self, draw, book):
        """Return a STAND on the way from an INNER one to a HELD one far away."""
        begin, found = inner(book), greatest_held(book, tuple(draw.randint(-2, 2) for _ in book[0][0]))
        end = found[2] if found[0] == "at" else added(found[1], multiple(whole(draw.randint(1, 9)), found[2]))
        return added(begin, multiple(shown(draw.choice((Fraction(1), Fraction(1, 2), Fraction(9, 10), Fraction(99, 100)))), less(end, begin)))

    def test_more_than_five_groups(self):
        """Only two branches are looked at then."""
        for many in (5, 6):
            book = heap(CELLS[:many])
            stand = vector_of((1,) * 3 + (0,) * (many - 3))
            self.assertEqual(place(book, stand), "rim")
            if many == 5:
                self.assertEqual(self.check(book, stand, road(book, stand)), 6)
            else:
                with self.assertRaises(NotInside):
                    road(book, stand)
            stand = ((1, 2),) * 5 + ((1, 3),) * (many - 5)
            history = road(book, stand)
            self.check(book, stand, history)
            self.assertEqual(len(history) == 6, many == 5)
        self.assertGreater(self.check_steps(book, stand, history), 5)

    def test_steps(self):
        """In the strip each STEP is 2 long; from the middle."""
        self.assertEqual(inner(STRIP)[0], inner(STRIP)[1])
        begin = inner(STRIP)
        for one, other, steps in (((4, 1), (-4, 1), 4), ((9, 2), (-4, 1), 5), ((0, 1), (7, 1), 4), ((100, 1), (1, 3), 51), ((-13, 2), (-6, 5), 5)):
            stand = added(begin, (one, other))
            history = road(STRIP, stand)
            self.check(STRIP, stand, history)
            self.assertEqual(self.check_steps(STRIP, stand, history), steps)
        rope = vector_of((12, 0, -12))
        self.check(ROPE, rope, road(ROPE, rope))
        self.check_steps(ROPE, rope, road(ROPE, rope))

    def test_steps_by_chance(self):
        seen, most, grouped = 0, 0, 0
        for seed in range(500):
            draw = random.Random(seed)
            many = draw.randint(2, 4)
            cells = CELLS[:many]
            frame = draw.choice((singles(cells, draw.choice(("usual", "strict"))), (cells, (cells[:2], *[(cell,) for cell in cells[2:]]), (), "usual")))
            reading = tuple(draw.choice((-2, -1, 1, 2)) for _ in cells)
            limits = [("<=", reading, draw.randint(1, 2)), ("<=", tuple(-number for number in reading), draw.randint(1, 2))]
            limits += [("<=", tuple(draw.randint(-2, 2) for _ in cells), draw.randint(1, 9)) for _ in range(draw.randint(0, 5))]
            book = (frame, tuple(limits))
            stand = self.far(draw, book)
            if good(book, stand) or place(book, stand) != "inside" or len(road(book, stand)) <= 12:
                continue
            history = road(book, stand)
            self.check(book, stand, history)
            seen += 1
            grouped += len(frame[1]) < many
            most = max(most, self.check_steps(book, stand, history))
        self.assertGreater(min(seen, 5 * grouped, most), 15)

    def test_most_steps(self):
        """TooMany if there are more than 300 STEPS, and not for 300."""
        begin = inner(STRIP)
        for one, other in (((300, 1), (-300, 1)), ((0, 1), (600, 1)), ((599, 2), (-300, 1))):
            stand = added(begin, (one, other))
            history = self.quick(road, STRIP, stand)
            self.assertEqual(self.check(STRIP, stand, history), 901)
            self.assertEqual(self.check_steps(STRIP, stand, history), 300)
            for more in (added(stand, ((1, 1000), (0, 1))), added(stand, ((0, 1), (2, 1)))):
                if numbers_of(less(more, begin))[0] > 300 or numbers_of(less(more, begin))[1] > 600:
                    found = self.quick(road, STRIP, more)
                    self.assertIsInstance(found, TooMany)
                    self.assertEqual(found.most, 4000)
        found = self.quick(road, STRIP, vector_of((10 ** 39, -10 ** 39)))
        self.assertIsInstance(found, TooMany)

    def test_fewer_directions(self):
        """Four cells with a sum, and limits that branches over one base do not reach to."""
        sums = ("=", (1, 1, 1, 1), 0)
        for way, limits in (
            ("strict", ((0, -1, 1, 1), (1, 1, 0, -1), (1, -1, 1, 1))),
            ("strict", ((1, -1, 0, 1), (1, 0, 0, -1), (1, 0, -1, 0), (0, -1, 1, 0), (0, 1, 1, 0), (0, 1, 0, 0))),
            ("usual", ((1, -1, -1, -1), (0, -1, 0, -1), (-1, 1, 1, -1), (0, -1, 1, -1))),
            ("usual", ((0, -1, 1, 0), (-1, 1, 0, 0), (-1, 0, -1, 0))),
        ):
            book = (singles("abcd", way), (sums,) + tuple(("<=", reading, 1) for reading in limits))
            self.assertEqual(len(directions(book)), 3)
            seen = 0
            for seed in range(15):
                stand = self.far(random.Random(seed), book)
                if place(book, stand) == "inside":
                    seen += self.check(book, stand, road(book, stand)) > 12
            self.assertGreater(seen, 0)

    def test_added_cells(self):
        """An added cell alone comes as far as one likes, by doubling."""
        lone = (("x",), (), ("x",), "strict")
        for bound in (1, 5):
            book = (lone, (("<=", (1,), bound), ("<=", (-1,), 0)))
            for number in ((7 * bound, 1), (99, 2), (1000003, 7), (10 ** 30, 1), (-10 ** 30, 3)):
                history = self.quick(road, book, (number,))
                self.check(book, (number,), history)
        both = read_book("sheet usual\ncells a x y\ngroup a\nadded x y\nrule 1 a 1 x = 4\nrule 1 a 1 y <= 3\nrule -1 a <= 0\nrule -1 x <= 0")
        for text in ("a 1, x 30, y 5", "a 2, x -9, y -40", "a 3, x 1/7, y 9999"):
            stand = read_vector(both[0], text)
            self.assertEqual(place(both, stand), "inside")
            self.check(both, stand, self.quick(road, both, stand))

    def test_inside_by_chance(self):
        """STANDS that are INSIDE and that no branches come to: with fewer DIRECTIONS, added cells, groups of several cells, in both ways."""
        seen = {"usual": 0, "strict": 0, "added": 0, "fewer": 0, "grouped": 0}
        for seed in range(400):
            draw = random.Random(1000 + seed)
            book = made_ruled_book(draw, draw.randint(2, 5), draw.choice(("strict", "strict", "strict", "usual")))
            if draw.random() < 0.5:
                book = boxed(book, draw.randint(1, 4))
            if no_stand(book) is not None or survives(book):
                continue
            stand = self.far(draw, book)
            if place(book, stand) != "inside":
                continue
            history = self.quick(road, book, stand)
            if self.check(book, stand, history) > 1 and not any(is_forked(history, k) for k in range(2, 7)):
                frame = book[0]
                for key, is_so in ((frame[3], True), ("added", frame[2] != ()), ("fewer", len(directions(book)) < len(frame[0])), ("grouped", any(len(group) > 1 for group in frame[1]))):
                    seen[key] += is_so
        self.assertGreater(min(seen.values()), 2, seen)

    def test_not_inside(self):
        for book, numbers in ((BOOK, (11, 0)), (BOOK, (-1, 5)), (EQUAL, (4, 0)), (EQUAL, (2, 1)), (LOOSE, (3, 0)), (boxed(FREE, 3), (3, 4)), (heap("abcdef"), (1, 1, 1, 0, 0, 0)), (STRIP[:1] + ((("=", (1, -1), 0),),), (1, 2))):
            with self.assertRaises(NotInside):
                road(book, vector_of(numbers))

    def test_rim_that_alike_groups_come_to(self):
        """Two clerks who put the same into a cell, and take it from cells of their own: no branches, and on the RIM."""
        book = (with_way(TRIPLE[0], "usual"), (("=", (1, 1, 1), 0), ("<=", (0, 1, 0), 1), ("<=", (0, -1, 0), 1), ("<=", (0, 0, 1), 1), ("<=", (0, 0, -1), 1)))
        stand = vector_of((2, -1, -1))
        self.assertIs(good(book, stand), True)
        stand = vector_of((1, -1, -1))
        self.assertEqual(place(book, stand), "rim")
        self.assertFalse(any(do_branches_come(book, stand, k) for k in (2, 3)))
        with self.assertRaises(NotInside):
            road(book, stand)
        inside = vector_of((1, 0, 0))
        self.assertEqual(place(book, inside), "inside")
        self.assertGreater(self.check(book, inside, road(book, inside)), 3)

    def test_errors(self):
        for book in NONE:
            for call in (lambda: road(book, vector_of((0, 0))), lambda: beyond(book, (1, 0), (0, 1))):
                with self.assertRaises(NoStand) as caught:
                    call()
                self.assertEqual(caught.exception.paper, no_stand(book))

    def test_too_many(self):
        """As place raises it, but only where the STAND is not GOOD, and no branches come to it."""
        book = crowded()
        none = vector_of((0,) * 8)
        self.assertEqual(self.quick(road, book, none), (("first", none),))
        found = self.quick(road, book, vector_of((1,) + (0,) * 7))
        self.assertIsInstance(found, TooMany)
        self.assertEqual(found.most, 400)
        limited = (book[0], tuple(("<=", rule[1], 0) for rule in book[1]) + tuple(("<=", tuple(-number for number in rule[1]), 0) for rule in book[1]))
        self.assertEqual(self.quick(road, limited, vector_of((1,) + (0,) * 7)).most, 400)
        free = (book[0], book[1] + (("<=", (1, -1, 0, 0, 0, 0, 0, 0), 1),))
        self.assertEqual(self.quick(road, free, vector_of((0,) * 7 + (1,))).most, 400)
        many = wide()
        self.assertEqual(self.quick(road, many, vector_of((3,) * 41)), (("first", vector_of((3,) * 41)),))

    def test_branches_ahead_of_too_many(self):
        """Two branches come to it, so nobody asks for FAMILIES."""
        cells = CELLS + ("i", "j")
        rules = tuple((sign, reading + (0, 0), bound) for sign, reading, bound in crowded()[1]) + (("<=", (0,) * 8 + (1, 1), 1),)
        book = (singles(cells), rules)
        stand = vector_of((0,) * 8 + (1, 1))
        history = self.quick(road, book, stand)
        self.assertEqual(self.check(book, stand, history), 4)
        found = self.quick(beyond, book, (0,) * 9 + (1,), (5, 1))
        self.assertIsInstance(found, TooMany)
        self.assertEqual(found.most, 400)

    def test_at_the_bounds(self):
        for size in (9, 10 ** 40 - 1):
            for seed in range(6):
                draw = random.Random(seed)
                parts = ((CELLS[:3], CELLS[3:5], CELLS[5:7], CELLS[7:]), tuple((cell,) for cell in CELLS))[seed % 2]
                rules = made_great_rules(draw, CELLS, size, seed // 2)
                book = ((CELLS, parts, (), draw.choice(("usual", "strict"))), rules)
                try:
                    stand = self.far(draw, book)
                except TooMany:
                    continue
                history = self.quick(road, book, stand)
                if isinstance(history, tuple):
                    self.assertEqual(stands_of(book, history)[-1], stand)


class Beyond(TimedCase):
    def check(self, book, reading, bound, length):
        """Check that a HISTORY leads beyond a bound, and its length."""
        history = beyond(book, reading, shown(Fraction(bound)))
        self.assertTrue(is_history(book, history))
        self.assertGreater(dot(reading, numbers_of(stands_of(book, history)[-1])), bound)
        self.assertEqual([deed[0] for deed in history[1:] if deed[0] not in ("edit", "merge")], [])
        if length is not None:
            self.assertEqual(len(history), length)
        return history

    def test_ordinary(self):
        tiny = Fraction(1, 10 ** 30)
        for book, reading, lengths in (
            (BOOK, (1, 1), ((9, 1), (Fraction(19, 2), 1), (10 - tiny, 1), (10, 4), (10 + tiny, 4), (Fraction(79, 4), 4), (20 - tiny, 4), (20, None), (20 + tiny, None))),
            (BOOK, (-1, -1), ((-1, 1), (0, None), (3, None))),
            (TRIPLE, (1, 1, 1), ((5, 1), (6, 4), (Fraction(23, 2), 4), (12, 6), (18 - tiny, 6), (18, None))),
            (heap("abcdef"), (1,) * 6, ((0, 1), (1, 4), (2, 7), (Fraction(59, 10), 7), (6, None))),
            (heap("abcde"), (1,) * 5, ((0, 1), (1, 4), (2, 6), (3, 7), (Fraction(49, 10), 7), (5, None))),
            (FREE, (0, 0), ((-1, 1), (-tiny, 1), (0, None), (tiny, None))),
            (FREE, (2, -1), ((0, 1), (10 ** 39, 1))),
            (boxed(FREE, 0), (1, 1), ((-1, 1), (0, None))),
            (LOOSE, (0, 1), ((1, 1), (2, 4), (10 ** 9, 4))),
            ((ADDED, LOOSE[1] + (("<=", (0, -1), 0),)), (0, 1), ((1, 1), (2, 4), (4, 6), (6, 7), (10 ** 12, 7))),
            ((PLANE, LIMITS[:1]), (1, 1), ((9, 1), (10, 4), (10 ** 15, 4))),
        ):
            for bound, length in lengths:
                if length is None:
                    self.assertIsNone(beyond(book, reading, shown(Fraction(bound))), (book, reading, bound))
                elif length < 7:
                    self.check(book, reading, bound, length)
                else:
                    self.assertGreater(len(self.check(book, reading, bound, None)), 6)

    def test_by_chance(self):
        seen = {}
        for seed in range(220):
            draw = random.Random(seed)
            book = made_ruled_book(draw, draw.randint(1, 4))
            if draw.random() < 0.6:
                book = boxed(book, draw.randint(1, 4))
            if no_stand(book) is not None:
                continue
            reading = tuple(draw.randint(-2, 2) for _ in book[0][0])
            most, one, before = greatest_held(book, reading), greatest(book, reading), copy.deepcopy(book)
            if most[0] == "at":
                self.assertIsNone(beyond(book, reading, most[1]))
                bounds = [told(most[1]) - Fraction(1, 1000)]
                if one[0] == "at" and one[1] != most[1]:
                    bounds += [told(one[1]), (told(one[1]) + told(most[1])) / 2]
            else:
                bounds = [Fraction(draw.randint(-3, 99), draw.choice((1, 2, 7)))]
            for bound in bounds:
                history = self.check(book, reading, bound, None)
                is_near = one[0] == "endless" or told(one[1]) > bound
                self.assertIs(len(history) == 1, is_near)
                kind = min(len(history), 7)
                seen[kind] = seen.get(kind, 0) + 1
                self.assertEqual((book, beyond(book, reading, shown(bound))), (before, history))
        self.assertGreater(min(seen[kind] for kind in (1, 4, 7)), 5)

    def test_too_many(self):
        """As greatest_held raises it, ahead of all this: though a GOOD STAND would do."""
        for bound in ((-1, 1), (0, 1)):
            found = self.quick(beyond, crowded(), (0,) * 8, bound)
            self.assertIsInstance(found, TooMany)
            self.assertEqual(found.most, 400)
            found = self.quick(beyond, wide(), (1,) + (0,) * 40, bound)
            self.assertIsInstance(found, TooMany)
            self.assertEqual(found.most, 40)

    def test_steps(self):
        found = beyond(STRIP, (1, -1), (500, 1))
        self.assertEqual((is_history(STRIP, found), (len(found) - 1) % 3), (True, 0))
        self.assertGreater(dot((1, -1), numbers_of(stands_of(STRIP, found)[-1])), 500)
        found = self.quick(beyond, STRIP, (1, -1), (10 ** 9, 1))
        self.assertIsInstance(found, TooMany)
        self.assertEqual(found.most, 4000)
