"""[37]: PEOPLE, what they reach, and who may break what."""

import copy
import itertools
import random

from heldthrough.booktexts import read_book, read_vector, show_book
from heldthrough.directions import directions, inner, is_inner
from heldthrough.drift import drift
from heldthrough.errors import NoStand, NotInside, TooMany
from heldthrough.fractions import vector_of
from heldthrough.frames import with_way
from heldthrough.held import place
from heldthrough.heldlimits import holds
from heldthrough.histories import common_elders, is_history, stands_of
from heldthrough.limits import no_stand
from heldthrough.people import book_of, is_of_people, is_people, new_rights, reach, who_moves
from heldthrough.spaces import is_space
from tests.linear import drift_by_words, is_in, null_by_words, rank, space_by_words
from tests.makers import boxed, good, made_great_rules, made_ruled_book, merge_by_words, numbers_of, sides_by_words
from tests.test_crossing import singles
from tests.test_guarantees import corner
from tests.test_limits import NONE
from tests.test_safe import CELLS, crowded
from tests.timed import TimedCase
from tests.values import ANY_VALUES, FRAME
from tests.words import dot

SHEET = read_book("sheet strict\ncells a b c\ngroup a\ngroup b\ngroup c\nrule 1 a 1 b 1 c <= 6\nrule -1 a <= 0\nrule -1 b <= 0\nrule -1 c <= 0")
START = read_vector(SHEET[0], "a 1, b 1, c 1")
SUM = read_book("sheet usual\ncells a b c d\ngroup a\ngroup b\ngroup c\ngroup d\nrule 1 a 1 b 1 c 1 d = 4\nrule -1 d <= 9")


def units(places, many):
    """Return rows that MOVE one of the cells at these places each."""
    return [tuple(int(k == at) for k in range(many)) for at in places]


def cut_by_words(one, other, many):
    """Return rows that span what is in both spans."""
    return null_by_words([*null_by_words(one, many), *null_by_words(other, many)], many)


def reach_by_words(book, people):
    """Return the least SPACE from which no person leads, as the document tells."""
    many, flat, found = len(book[0][0]), directions(book), []
    while True:
        ahead = rank(found)
        for places in people:
            wide_ = list(drift_by_words(book[0], space_by_words(found))) + units(places, many)
            found = found + [list(row) for row in cut_by_words(flat, wide_, many)]
        found = [list(row) for row in space_by_words(found)]
        if rank(found) == ahead:
            return space_by_words(found)


def made_people(draw, many):
    """Return PEOPLE of few persons."""
    return tuple(tuple(sorted(draw.sample(range(many), draw.randint(0, min(many, 3))))) for _ in range(draw.randint(0, 3)))


def made_run(draw, book, people, start, many):
    """Return a HISTORY OF PEOPLE of at most so many DEEDS, and its STANDS."""
    history, stands, cells = [("first", start)], [start], range(len(start))
    for _ in range(4 * many):
        if len(history) == many:
            break
        one, other, third = [draw.randrange(len(history)) for _ in range(3)]
        word = draw.choice(("edit", "edit", "edit", "merge", "merge", "pick", "pick", "revert"))
        if word == "edit":
            if people:
                own = draw.choice(people)
                kept = [at for at in cells if at not in own]
                stand = corner(draw, book, kept, stands[one])
                if stand is not None:
                    history.append(("edit", one, stand))
                    stands.append(stand)
            continue
        if word == "merge":
            third = draw.choice(common_elders(tuple(history), one, other))
        deed = (word, one, other, third)
        stand, clashing = merge_by_words(book[0], *[stands[version] for version in sides_by_words(deed)])
        if not clashing:
            history.append(deed)
            stands.append(stand)
    return tuple(history), stands


class Forms(TimedCase):
    def test_is_people(self):
        for thing, found in (
            ((), True), (((),), True), (((0,), (1, 2), ()), True), (((0, 1, 2),) * 4, True), (((1, 0),), False), (((0, 0),), False), (((3,),), False), (((-1,),), False), (((True,),), False), (([0],), False), ([(0,)], False), ((0,), False), (((0,), None), False), ((("a",),), False), (((0, (1,)),), False),
        ):
            self.assertIs(is_people(FRAME, thing), found, thing)
        for thing in ANY_VALUES:
            is_so = type(thing) is tuple and all(type(one) is tuple and one in ((), (0,), (1,), (2,), (0, 1), (0, 2), (1, 2), (0, 1, 2)) and all(type(number) is int for number in one) for one in thing)
            self.assertIs(is_people(FRAME, thing), is_so, thing)
            self.assertIs(is_people(FRAME, (thing,)), type(thing) is tuple and (thing == () or all(type(number) is int for number in thing) and thing in ((0,), (0, 1))), thing)

    def test_is_of_people(self):
        edits = lambda *texts: (("first", START),) + tuple(("edit", at, read_vector(SHEET[0], text)) for at, text in enumerate(texts))
        one, both = edits("a 2, b 1, c 1"), edits("a 2, b 2, c 1")
        for people, history, found in (
            ((), edits(), True), ((), edits("a 1, b 1, c 1"), False), (((),), edits("a 1, b 1, c 1"), True), (((),), one, False), (((0,),), one, True), (((1,),), one, False), (((1,), (0,)), one, True), (((0,), (1,)), both, False), (((0,), (0, 1)), both, True),
            (((0,), (1,)), edits("a 2, b 1, c 1", "a 2, b 2, c 1"), True), (((0,), (1,)), edits("a 2, b 1, c 1", "a 2, b 1, c 2"), False), (((0, 1, 2),), (("first", START), ("settle", 0, 0, START)), False), ((), (("first", START), ("merge", 0, 0, 0), ("pick", 1, 0, 1), ("revert", 2, 1, 0)), True),
            (((0,),), one + (("edit", 0, read_vector(SHEET[0], "a 3, b 1, c 1")), ("merge", 1, 0, 0), ("settle", 1, 2, START)), False),
        ):
            self.assertTrue(is_history(SHEET, history))
            self.assertIs(is_of_people(SHEET, people, history), found, (people, history))

    def test_edits_of_what_merges_made(self):
        """An edit is of the STAND of its PARENT, though that be broken."""
        history = (("first", START), ("edit", 0, read_vector(SHEET[0], "a 4, b 1, c 1")), ("edit", 0, read_vector(SHEET[0], "a 1, b 4, c 1")), ("merge", 1, 2, 0), ("edit", 3, read_vector(SHEET[0], "a 1, b 4, c 1")))
        self.assertTrue(is_history(SHEET, history))
        self.assertIs(is_of_people(SHEET, ((0,), (1,)), history), True)
        self.assertIs(is_of_people(SHEET, ((0,), (1,)), history[:4] + (("edit", 3, START),)), False)


class Reach(TimedCase):
    def test_ordinary(self):
        for book, people, found in (
            (SHEET, (), ()), (SHEET, ((), ()), ()), (SHEET, ((0,), (1,)), ((1, 0, 0), (0, 1, 0))), (SHEET, ((0, 1, 2),), ((1, 0, 0), (0, 1, 0), (0, 0, 1))), (SUM, ((0,), (1,), (2,), (3,)), ()), (SUM, ((0, 1), (1, 2)), ((1, 0, -1, 0), (0, 1, -1, 0))), (SUM, ((0, 1), (2, 3)), ((1, -1, 0, 0), (0, 0, 1, -1))),
            (SUM, ((0, 1, 2, 3),), ((1, 0, 0, -1), (0, 1, 0, -1), (0, 0, 1, -1))),
        ):
            self.assertEqual(reach(book, people), found, people)

    def test_where_merges_lead_away(self):
        """Two who put 1 into a, and take it from b or c: the merge has 1 less. Then d alone leads back to a GOOD STAND."""
        self.assertEqual(reach(SUM, ((0, 1), (0, 2))), ((1, 0, -1, 0), (0, 1, -1, 0)))
        self.assertEqual(reach(SUM, ((0, 1), (0, 2), (3,))), ((1, 0, 0, -1), (0, 1, 0, -1), (0, 0, 1, -1)))
        self.assertEqual(reach((with_way(SUM[0], "strict"), SUM[1]), ((0, 1), (0, 2), (3,))), ((1, 0, -1, 0), (0, 1, -1, 0)))

    def test_by_chance(self):
        seen, wider = 0, 0
        for seed in range(160):
            draw = random.Random(seed)
            book = made_ruled_book(draw, draw.randint(1, 4), draw.choice(("usual", "usual", "strict")))
            people = made_people(draw, len(book[0][0]))
            if draw.random() < 0.5:
                many = 4
                book = (singles(CELLS[:many], "usual"), (("=", (1,) * many, 0),))
                people = tuple(tuple(sorted(draw.sample(range(4), draw.choice((1, 2, 2))))) for _ in range(draw.randint(2, 4)))
            before = copy.deepcopy((book, people))
            found = reach(book, people)
            self.assertTrue(is_space(len(book[0][0]), found))
            self.assertEqual(found, reach_by_words(book, people))
            self.assertTrue(all(is_in(directions(book), row) for row in found))
            self.assertEqual(((book, people), reach(book, people)), (before, found))
            alone = [row for places in people for row in cut_by_words(directions(book), units(places, len(book[0][0])), len(book[0][0]))]
            seen += 0 < len(found) < len(directions(book))
            wider += len(found) > rank(alone)
        self.assertGreater(seen, 30)
        self.assertGreater(wider, 2)


class BookOf(TimedCase):
    def test_ordinary(self):
        frame = SHEET[0]
        self.assertEqual(show_book(book_of(SHEET, START, ((0,), (1,)))).split("\n")[-1], "rule 1 c = 1")
        self.assertEqual(book_of(SHEET, START, ((0, 1, 2),)), SHEET)
        self.assertEqual(book_of(SHEET, ((1, 2), (2, 3), (1, 1)), ((2,),)), (frame, SHEET[1] + (("=", (2, 0, 0), 1), ("=", (0, 3, 0), 2))))
        self.assertEqual(book_of(SUM, ((1, 2), (1, 3), (1, 6), (3, 1)), ()), (SUM[0], SUM[1] + (("=", (2, 0, 0, 0), 1), ("=", (0, 3, 0, 0), 1), ("=", (0, 0, 6, 0), 1), ("=", (0, 0, 0, 1), 3))))
        self.assertEqual(book_of(SUM, ((1, 2), (1, 3), (1, 6), (3, 1)), ((0, 1), (2, 3))), (SUM[0], SUM[1] + (("=", (6, 6, 0, 0), 5), ("=", (0, 0, 6, 6), 19))))

    def test_by_chance(self):
        """Each STAND of a HISTORY OF PEOPLE is HELD by it; its DIRECTIONS are what they reach."""
        versions, broken = 0, 0
        for seed in range(260):
            draw = random.Random(seed)
            book = made_ruled_book(draw, draw.randint(2, 4))
            if draw.random() < 0.7:
                book = boxed(book, draw.randint(2, 5))
            if no_stand(book) is not None:
                continue
            people, start = made_people(draw, len(book[0][0])), inner(book)
            before = copy.deepcopy((book, start, people))
            found = book_of(book, start, people)
            self.assertEqual(((book, start, people), book_of(book, start, people)), (before, found))
            self.assertEqual((found[0], found[1][:len(book[1])]), book)
            rows = space_by_words(null_by_words(reach_by_words(book, people), len(start)))
            self.assertEqual(len(found[1]), len(book[1]) + len(rows))
            for (sign, reading, bound), row in zip(found[1][len(book[1]):], rows):
                number = dot(row, numbers_of(start))
                self.assertEqual((sign, reading, bound), ("=", tuple(one * number.denominator for one in row), number.numerator))
            self.assertEqual(directions(found), reach(book, people))
            self.assertTrue(is_inner(found, start))
            for _ in range(2):
                history, stands = made_run(draw, book, people, start, 12)
                self.assertTrue(is_history(book, history))
                self.assertEqual(stands_of(book, history), tuple(stands))
                self.assertIs(is_of_people(book, people, history), True)
                for stand in stands:
                    versions += 1
                    broken += not good(book, stand)
                    self.assertNotEqual(place(found, stand), "out")
        self.assertGreater(versions, 1500)
        self.assertGreater(broken, 20)

    def test_not_inner(self):
        for stand in (vector_of((0, 1, 1)), vector_of((3, 2, 1)), vector_of((9, 9, 9)), vector_of((-1, 1, 1))):
            with self.assertRaises(NotInside):
                book_of(SHEET, stand, ((0,),))
            with self.assertRaises(NotInside):
                new_rights(SHEET, stand, ((0,),), 0)

    def test_no_stand(self):
        for book in NONE:
            stand = vector_of((0, 0))
            for call, more in ((reach, (((0,),),)), (book_of, (stand, ())), (who_moves, (((0,),), (1, 0))), (new_rights, (stand, ((0,),), 0))):
                with self.assertRaises(NoStand) as caught:
                    call(book, *more)
                self.assertEqual(caught.exception.paper, no_stand(book))


class Rights(TimedCase):
    def test_who_moves(self):
        for book, people, reading, found in (
            (SHEET, ((0,), (1,)), (0, 1, 1), (1,)), (SHEET, ((0,), (1,), ()), (1, 1, 1), (0, 1)), (SHEET, (), (1, 1, 1), ()), (SHEET, ((0, 1, 2),) * 2, (0, 0, 0), ()), (SUM, ((0,), (0, 1), (2, 3)), (1, 0, 0, 0), (1,)), (SUM, ((0,), (0, 1), (2, 3)), (1, 1, 0, 0), ()), (SUM, ((0, 2),), (1, 1, 0, 0), (0,)),
        ):
            self.assertEqual(who_moves(book, people, reading), found)
        for seed in range(150):
            draw = random.Random(seed)
            book = made_ruled_book(draw, draw.randint(1, 5))
            many = len(book[0][0])
            people, reading = made_people(draw, many), tuple(draw.randint(-1, 1) for _ in range(many))
            words = [index for index, places in enumerate(people) if any(dot(row, reading) != 0 for row in cut_by_words(directions(book), units(places, many), many))]
            self.assertEqual(who_moves(book, people, reading), tuple(words))

    def test_new_rights(self):
        self.assertEqual(new_rights(SHEET, START, ((0,),), 0), ((0, 1), (0, 2)))
        self.assertEqual(new_rights(SHEET, START, ((0,), (1,)), 0), ())
        self.assertEqual(new_rights(SHEET, START, ((), ()), 0), ())
        self.assertEqual(new_rights(SHEET, START, ((0,), ()), 0), ((0, 1), (0, 2), (1, 1), (1, 2)))
        self.assertEqual(new_rights(SHEET, START, (), 0), ())

    def test_new_rights_by_chance(self):
        seen, some = 0, 0
        for seed in range(120):
            draw = random.Random(seed)
            book = made_ruled_book(draw, draw.randint(2, 4))
            if not book[1]:
                continue
            people, start, index = made_people(draw, len(book[0][0])), inner(book), draw.randrange(len(book[1]))
            before = copy.deepcopy((book, start, people))
            found = new_rights(book, start, people, index)
            self.assertEqual((book, start, people), before)
            words = []
            if holds(book_of(book, start, people), book[1][index]):
                seen += 1
                for person, at in itertools.product(range(len(people)), range(len(start))):
                    if at not in people[person]:
                        wider = people[:person] + (tuple(sorted((*people[person], at))),) + people[person + 1:]
                        if not holds(book_of(book, start, wider), book[1][index]):
                            words.append((person, at))
            self.assertEqual(found, tuple(words))
            some += found != ()
        self.assertGreater(seen, 40)
        self.assertGreater(some, 3)

    def test_too_many(self):
        """As holds raises it: for the BOOK of PEOPLE, and for those with one right more."""
        book, everything = crowded(), tuple(range(8))
        stand = vector_of((0,) * 8)
        self.assertEqual(self.quick(book_of, book, stand, (everything,))[1][:3], book[1])
        found = self.quick(new_rights, book, stand, (everything,), 0)
        self.assertIsInstance(found, TooMany)
        self.assertEqual(found.most, 400)
        self.assertIsInstance(self.quick(new_rights, book, vector_of((1,) + (0,) * 7), (everything,), 0), NotInside)
        found = self.quick(new_rights, book, stand, (everything[1:],), 0)
        self.assertIsInstance(found, TooMany)
        self.assertEqual(self.quick(new_rights, book, stand, ((0, 1), (2,)), 0), ())

    def test_at_the_bounds(self):
        for size in (3, 10 ** 40 - 1):
            for seed in range(4):
                draw = random.Random(seed)
                rules = made_great_rules(draw, CELLS, size, seed)
                book = (singles(CELLS, "usual" if seed % 2 else "strict"), rules)
                people = tuple(tuple(sorted(draw.sample(range(8), 4))) for _ in range(8))
                start = inner(book)
                self.quick(reach, book, people)
                found = self.quick(book_of, book, start, people)
                self.assertEqual(found[1][:16], rules)
                self.quick(who_moves, book, people, rules[0][1])
                self.quick(new_rights, book, start, ((0, 1, 2, 3), (4, 5), ()), 15)


class Drift(TimedCase):
    def test_of_the_book(self):
        """The DRIFT of a BOOK of PEOPLE has the CHANGES to all STANDS of their HISTORIES."""
        draw = random.Random(5)
        people, start = ((0, 1), (0, 2), (3,)), vector_of((1, 1, 1, 1))
        wide_ = drift(book_of(SUM, start, people))
        for _ in range(20):
            _, stands = made_run(draw, SUM, people, start, 12)
            self.assertTrue(all(is_in(wide_, [b - a for a, b in zip(numbers_of(start), numbers_of(stand))]) for stand in stands))
