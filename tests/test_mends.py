"""[38]: mends, and who has brought what."""

import copy
import itertools
import random

from heldthrough.booktexts import read_book, read_vector
from heldthrough.directions import inner
from heldthrough.errors import Clash, NoStand
from heldthrough.fractions import added, vector_of
from heldthrough.frames import with_way
from heldthrough.limits import no_stand
from heldthrough.mends import blame, hands, is_mend, mends, places_of_pieces
from heldthrough.programs import solved
from tests.makers import good, made_frame, made_great_rules, made_ruled_book, made_stand, merge_by_words, near_stand, numbers_of, told
from tests.test_crossing import singles
from tests.test_limits import NONE
from tests.test_safe import CELLS
from tests.timed import TimedCase
from tests.values import ANY_VALUES, others
from tests.words import dot, fractions_by_words

SHEET = read_book("sheet strict\ncells a b c\ngroup a\ngroup b\ngroup c\nrule 1 a 1 b 1 c <= 6\nrule -1 a <= 0\nrule -1 b <= 0\nrule -1 c <= 0")
MIXED = read_book("sheet usual\ncells x a y b c\ngroup a c\ngroup b\nadded x y\nrule 1 x 1 a <= 3\nrule 1 y 1 b 1 c = 4\nrule -1 x <= 0")


def cells_of_pieces(frame, pieces):
    """Return the set of the cells of some PIECES, as the document counts these."""
    told_ = [*frame[1], *[(cell,) for cell in frame[2]]]
    return {cell for piece in pieces for cell in told_[piece]}


def does_do(book, stand, pieces):
    """Tell whether some GOOD STAND differs from a STAND only in cells of PIECES: by a program over all cells."""
    frame, numbers = book[0], numbers_of(stand)
    free = cells_of_pieces(frame, pieces)
    pins = [("=", tuple(number.denominator * (k == at) for k in range(len(numbers))), number.numerator) for at, number in enumerate(numbers) if frame[0][at] not in free]
    return solved((*book[1], *pins), (0,) * len(numbers))[0] != "none"


def least_pieces(book, stand):
    """Return the ascending list of the least tuples of PIECES that would do."""
    pieces = range(len(book[0][1]) + len(book[0][2]))
    found = [some for size in range(len(pieces) + 1) for some in itertools.combinations(pieces, size) if does_do(book, stand, some)]
    return sorted(one for one in found if not any(set(other) < set(one) for other in found))


def is_mend_by_words(book, stand, thing):
    """Tell whether a value is a tuple (pieces, good) as mends could tell."""
    frame = book[0]
    if type(thing) is not tuple or len(thing) != 2 or type(thing[0]) is not tuple:
        return False
    pieces, many = thing[0], len(frame[1]) + len(frame[2])
    if not all(type(piece) is int and 0 <= piece < many for piece in pieces) or list(pieces) != sorted(set(pieces)):
        return False
    if fractions_by_words(thing[1], len(frame[0])) is None or not good(book, thing[1]):
        return False
    free = cells_of_pieces(frame, pieces)
    if any(cell not in free and one != other for cell, one, other in zip(frame[0], stand, thing[1])):
        return False
    return not any(does_do(book, stand, some) for size in range(len(pieces)) for some in itertools.combinations(pieces, size))


class Mends(TimedCase):
    def test_ordinary(self):
        frame = SHEET[0]
        for text, found in (("a 4, b 3, c 1", [(0,), (1,)]), ("a 8, b -1", [(0, 1)]), ("a 6, b 6, c 6", [(0, 1), (0, 2), (1, 2)]), ("a -1, b -1, c -1", [(0, 1, 2)]), ("c 13/2", [(2,)]), ("a 13/2, c 13/2", [(0, 2)])):
            self.assertEqual([pieces for pieces, _ in mends(SHEET, read_vector(frame, text))], found)
        for text in ("", "a 1, b 2, c 3"):
            stand = read_vector(frame, text)
            self.assertEqual(mends(SHEET, stand), (((), stand),))
        frame = MIXED[0]
        for text, found in (("x 4, y 4", [(0,), (2,)]), ("x 4", [(0,), (1, 2), (2, 3)]), ("x 1, y 3", [(0,), (1,), (3,)]), ("x -1, b 4", [(2,)]), ("x -1", [(0, 2), (1, 2), (2, 3)])):
            self.assertEqual([pieces for pieces, _ in mends(MIXED, read_vector(frame, text))], found, text)

    def test_by_chance(self):
        seen = {}
        for seed in range(250):
            draw = random.Random(seed)
            book = made_ruled_book(draw, draw.randint(1, 5))
            stand = draw.choice((made_stand(draw, book[0]), near_stand(draw, book[0], inner(book))))
            before = copy.deepcopy((book, stand))
            found = mends(book, stand)
            self.assertEqual([pieces for pieces, _ in found], least_pieces(book, stand))
            self.assertEqual(list(found), sorted(found))
            for one in found:
                self.assertTrue(is_mend_by_words(book, stand, one))
                self.assertIs(is_mend(book, stand, one), True)
                seen[len(one[0])] = seen.get(len(one[0]), 0) + 1
            self.assertEqual(((book, stand), mends(book, stand)), (before, found))
            if good(book, stand):
                self.assertEqual(found, (((), stand),))
        self.assertGreater(min(seen[size] for size in (0, 1, 2)), 20)

    def test_places_of_pieces(self):
        for pieces, places in (((), ()), ((0,), (1, 4)), ((1,), (3,)), ((2,), (0,)), ((3,), (2,)), ((0, 3), (1, 2, 4)), ((0, 1, 2, 3), (0, 1, 2, 3, 4)), ((1, 2), (0, 3))):
            self.assertEqual(places_of_pieces(MIXED[0], pieces), places)
        for seed in range(200):
            draw = random.Random(seed)
            frame = made_frame(draw)
            many = len(frame[1]) + len(frame[2])
            pieces = tuple(sorted(draw.sample(range(many), draw.randint(0, many))))
            cells = cells_of_pieces(frame, pieces)
            self.assertEqual(places_of_pieces(frame, pieces), tuple(at for at, cell in enumerate(frame[0]) if cell in cells))

    def test_judge(self):
        for book, text in ((SHEET, "a 4, b 3, c 1"), (SHEET, "a 8, b -1"), (MIXED, "x 4, y 4"), (SHEET, "")):
            stand = read_vector(book[0], text)
            for one in mends(book, stand):
                for thing in others(one):
                    self.assertIs(is_mend(book, stand, thing), is_mend_by_words(book, stand, thing), thing)
        stand = read_vector(SHEET[0], "a 4, b 3, c 1")
        less, more = vector_of((2, 3, 1)), vector_of((3, 2, 1))
        for thing, found in ((((0,), less), True), (((0, 1), less), False), (((0, 1), more), False), (((1,), less), False), (((), stand), False), (((0,), vector_of((3, 3, 1))), False), (((0,), (1, 3, 1)), False), (((3,), less), False), (((-1,), less), False), (((False,), less), False)):
            self.assertIs(is_mend(SHEET, stand, thing), found)
        good_one = vector_of((1, 1, 1))
        self.assertIs(is_mend(SHEET, good_one, ((), good_one)), True)
        self.assertIs(is_mend(SHEET, good_one, ((), vector_of((1, 1, 0)))), False)
        self.assertIs(is_mend(SHEET, good_one, ((2,), vector_of((1, 1, 0)))), False)

    def test_judge_of_any_value(self):
        stand = read_vector(SHEET[0], "a 4, b 3, c 1")
        for thing in ANY_VALUES:
            self.assertIs(is_mend(SHEET, stand, thing), False)
            self.assertIs(is_mend(SHEET, stand, (thing, vector_of((2, 3, 1)))), thing == (0,) and type(thing) is tuple and type(thing[0]) is int)
            self.assertIs(is_mend(SHEET, stand, ((0,), thing)), False)
            self.assertIs(is_mend(NONE[0], vector_of((0, 0)), thing), False)

    def test_no_stand(self):
        for book in NONE:
            with self.assertRaises(NoStand) as caught:
                mends(book, vector_of((0, 0)))
            self.assertEqual(caught.exception.paper, no_stand(book))

    def test_at_the_bounds(self):
        for size in (3, 10 ** 40 - 1):
            for seed in range(4):
                draw = random.Random(seed)
                rules = made_great_rules(draw, CELLS, size, seed)
                frame = (CELLS, tuple((cell,) for cell in CELLS[:4]), CELLS[4:], "usual") if seed % 2 else singles(CELLS)
                stand = tuple((draw.randint(-size, size), draw.choice((1, 1, 3))) for _ in CELLS)
                stand = tuple((num, den) if num % 3 else (num // den, 1) for num, den in stand)
                found = self.quick(mends, (frame, rules), stand)
                for one in found[:5]:
                    self.assertIs(self.quick(is_mend, (frame, rules), stand, one), True)


class Blame(TimedCase):
    def test_ordinary(self):
        frame = SHEET[0]
        base, mine, yours = [read_vector(frame, text) for text in ("c 2", "a 4, c 2", "b 3, c 1")]
        self.assertEqual(blame(SHEET, base, mine, yours, 0), ((0, 1), (4, 1), (2, 1)))
        self.assertEqual(blame(SHEET, base, mine, yours, 3), ((0, 1), (0, 1), (1, 1)))
        self.assertEqual(hands(frame, base, mine, yours), ("mine", "yours", "yours"))
        base, mine, yours = [read_vector(MIXED[0], text) for text in ("y 4", "x 1/2, a 1, y 3, c 1", "a 1, c 1, x 1/3, y 4, b -1")]
        self.assertEqual([blame(MIXED, base, mine, yours, index) for index in (0, 1)], [((1, 1), (1, 2), (1, 3)), ((1, 1), (-1, 1), (-1, 1))])
        self.assertEqual(hands(MIXED[0], base, mine, yours), ("both", "yours", "both", "mine"))
        self.assertEqual(hands(MIXED[0], base, base, base), ("none",) * 4)

    def test_clash(self):
        base, mine, yours = [read_vector(MIXED[0], text) for text in ("y 4", "a 1", "a 2, b 1")]
        with self.assertRaises(Clash) as caught:
            blame(MIXED, base, mine, yours, 0)
        self.assertEqual(caught.exception.groups, (0,))
        self.assertEqual(hands(MIXED[0], base, mine, yours), ("both", "yours", "none", "both"))
        strict = (with_way(MIXED[0], "strict"), MIXED[1])
        with self.assertRaises(Clash) as caught:
            blame(strict, base, mine, mine, 1)
        self.assertEqual(caught.exception.groups, (0,))

    def test_by_chance(self):
        """The three VALUES add up to what the MERGE has more than base; hands tell by whom each cell was changed."""
        clashes, alike = 0, 0
        for seed in range(500):
            draw = random.Random(seed)
            book = made_ruled_book(draw)
            frame = book[0]
            base = made_stand(draw, frame)
            mine = near_stand(draw, frame, base)
            yours = near_stand(draw, frame, draw.choice((base, mine)))
            before = copy.deepcopy((book, base, mine, yours))
            words = []
            for cells in [*frame[1], *[(cell,) for cell in frame[2]]]:
                by = [any(told(stand[frame[0].index(cell)]) != told(base[frame[0].index(cell)]) for cell in cells) for stand in (mine, yours)]
                words.append({(True, True): "both", (True, False): "mine", (False, True): "yours", (False, False): "none"}[tuple(by)])
            self.assertEqual(hands(frame, base, mine, yours), tuple(words))
            stand, clashing = merge_by_words(frame, base, mine, yours)
            for index, rule in enumerate(book[1]):
                if clashing:
                    clashes += 1
                    with self.assertRaises(Clash) as caught:
                        blame(book, base, mine, yours, index)
                    self.assertEqual(caught.exception.groups, clashing)
                    continue
                common, own, other = [told(number) for number in blame(book, base, mine, yours, index)]
                first, one, two, last = [dot(rule[1], numbers_of(vector)) for vector in (base, mine, yours, stand)]
                self.assertEqual((common + own, common + other, common + own + other), (one - first, two - first, last - first))
                alike += common != 0
            self.assertEqual((book, base, mine, yours), before)
        self.assertGreater(min(clashes, alike), 40)

    def test_with_added_cells(self):
        book = (singles("ab", "usual"), (("<=", (1, 1), 3),))
        base = vector_of((0, 0))
        self.assertEqual(blame(book, base, vector_of((1, 0)), added(base, vector_of((1, 5))), 0), ((1, 1), (0, 1), (5, 1)))
