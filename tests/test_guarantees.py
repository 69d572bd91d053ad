"""[5] to [8]: what is told of a BOOK is true of all its HISTORIES."""

import random

from heldthrough.drift import drift, off_flat
from heldthrough.frames import renamed
from heldthrough.held import place
from heldthrough.heldlimits import greatest_held, holds, kept_rules, survives
from heldthrough.histories import common_elders, first_broken, is_history, stands_of
from heldthrough.leastchanges import conformal, least_changes
from heldthrough.limits import greatest, is_greatest, is_no_stand, no_stand
from heldthrough.onemerge import breaking, farthest
from heldthrough.programs import solved
from heldthrough.safe import is_safe, outsides, unsafe_pair
from tests.linear import is_in
from tests.makers import boxed, good, made_frame, made_ruled_book, merge_by_words, sides_by_words, told
from tests.test_held import BOOK, DRIFTING, LOOSE
from tests.test_leastchanges import made_space, made_vector
from tests.test_onemerge import TRIPLE
from tests.timed import TimedCase
from tests.words import dot

# Two sums of four cells, one of them in a group of two; a limit across both; one more cell is added.
SUMS = ((tuple("abcde"), (("a",), ("b", "c"), ("d",)), ("e",), "usual"), (("=", (1, 1, 0, 0, 0), 2), ("=", (0, 0, 1, 1, 1), 1), ("<=", (1, 0, 1, 0, -1), 3)))


def corner(draw, book, kept=(), stand=None):
    """Return a GOOD STAND far out in some way, that is as a STAND at the places kept; None if there is none."""
    many = len(book[0][0])
    pins = [("=", tuple(stand[place][1] * (k == place) for k in range(many)), stand[place][0]) for place in kept]
    found = solved((*book[1], *pins), tuple(draw.randint(-2, 2) for _ in range(many)))
    if found[0] == "none":
        return None
    if found[0] == "at":
        return found[2]
    return tuple(_plus(one, other) for one, other in zip(found[1], found[2]))


def _plus(one, other):
    """Return the sum of two FRACTIONS."""
    total = told(one) + told(other)
    return (total.numerator, total.denominator)


def fresh_stand(draw, book, stand):
    """Return a GOOD STAND, mostly one that differs from a STAND in few cells."""
    free = draw.sample(range(len(stand)), min(len(stand), draw.choice((1, 1, 2, 2, 3))))
    found = corner(draw, book, [place for place in range(len(stand)) if place not in free], stand) if draw.random() < 0.9 else None
    return corner(draw, book) if found is None else found


def made_run(draw, book, many):
    """Return a HISTORY of a BOOK of at most so many DEEDS, and its STANDS."""
    history, stands = [("first", corner(draw, book))], [None]
    stands[0] = history[0][1]
    for _ in range(3 * many):
        if len(history) == many:
            break
        one, other, third = [draw.randrange(len(history)) for _ in range(3)]
        word = draw.choice(("edit", "edit", "edit", "merge", "merge", "merge", "pick", "revert", "settle"))
        if word in ("edit", "settle"):
            stand = fresh_stand(draw, book, stands[one])
            history.append((word, one, stand) if word == "edit" else (word, one, other, stand))
            stands.append(stand)
            continue
        if word == "merge":
            third = draw.choice(common_elders(tuple(history), one, other))
        deed = (word, one, other, third)
        stand, clashing = merge_by_words(book[0], *[stands[version] for version in sides_by_words(deed)])
        if not clashing:
            history.append(deed)
            stands.append(stand)
    return tuple(history), stands


def made_books(count, most=4):
    """Return the list of (source of chance, BOOK with GOOD STANDS), some of them within a box."""
    found = []
    for seed in range(count):
        draw = random.Random(seed)
        book = made_ruled_book(draw, draw.randint(1, most), draw.choice(("usual", "usual", "strict")))
        if draw.random() < 0.6:
            book = boxed(book, draw.randint(1, 5))
        if no_stand(book) is None:
            found.append((draw, book))
    return found


class Main(TimedCase):
    def test_all_versions_are_held(self):
        broken, versions, survived = 0, 0, 0
        fragile = [(random.Random(seed), book) for seed in range(12) for book in (BOOK, DRIFTING, boxed(LOOSE, 9), TRIPLE, boxed(SUMS, 4))]
        for draw, book in made_books(130) + fragile:
            kept, live, wide = kept_rules(book), survives(book), drift(book)
            readings = [tuple(draw.randint(-2, 2) for _ in book[0][0]) for _ in range(3)]
            most = [greatest_held(book, reading) for reading in readings]
            for _ in range(2):
                history, stands = made_run(draw, book, 14)
                self.assertTrue(is_history(book, history))
                self.assertEqual(stands_of(book, history), tuple(stands))
                for stand in stands:
                    versions += 1
                    numbers = [told(number) for number in stand]
                    self.assertNotEqual(place(book, stand), "out")
                    for index in kept:
                        self.assertTrue(good((book[0], (book[1][index],)), stand))
                    for reading, found in zip(readings, most):
                        self.assertTrue(found[0] == "endless" or dot(reading, numbers) <= told(found[1]))
                    self.assertTrue(is_in(wide, [one - told(old) for one, old in zip(numbers, stands[0])]))
                    broken += not good(book, stand)
                if live:
                    survived += 1
                    self.assertIsNone(first_broken(book, history))
        self.assertGreater(versions, 2000)
        self.assertGreater(broken, 60)
        self.assertGreater(survived, 30)

    def test_what_is_held_is_a_sum_of_safe_limits(self):
        for draw, book in made_books(80):
            reading = tuple(draw.randint(-2, 2) for _ in book[0][0])
            found = greatest_held(book, reading)
            if is_safe(book, reading):
                one = greatest(book, reading)
                self.assertEqual(found[0], one[0])
                self.assertTrue(found[0] == "endless" or found[1] == one[1])
            if found[0] == "at":
                for space, shares in zip(outsides(book), found[3]):
                    vector = [sum((told(share) * rule[1][k] for share, rule in zip(shares, book[1])), 0) for k in range(len(reading))]
                    self.assertTrue(all(dot(vector, row) == 0 for row in space))


class Surviving(TimedCase):
    def test_four_deeds_break_what_does_not_survive(self):
        seen = {True: 0, False: 0}
        for draw, book in made_books(200):
            history, live = breaking(book), survives(book)
            seen[live] += 1
            self.assertIs(history is None, live)
            if not live:
                self.assertEqual((is_history(book, history), len(history), first_broken(book, history)), (True, 4, 3))
                hurt = [index for index, rule in enumerate(book[1]) if not good((book[0], (rule,)), stands_of(book, history)[3])]
                self.assertFalse(set(hurt) & set(kept_rules(book)))
            else:
                self.assertIsNone(off_flat(book))
                self.assertTrue(all(place(book, made_run(draw, book, 8)[1][-1]) != "out" for _ in range(2)))
        self.assertGreater(min(seen.values()), 40)

    def test_a_broken_rule_is_no_sum_of_safe_limits(self):
        for draw, book in made_books(80):
            for index, rule in enumerate(book[1]):
                if not holds(book, rule):
                    self.assertIsNotNone(unsafe_pair(book, rule[1]))


class Names(TimedCase):
    def test_neither_names_nor_the_order_of_rules_matter(self):
        for draw, book in made_books(80):
            frame, rules = book
            many, order = len(frame[0]), list(range(len(rules)))
            draw.shuffle(order)
            names = tuple(draw.sample(["x", "y", "zz", "a", "b", "c", "till", "bank"], many))
            other = (renamed(frame, names), tuple(rules[index] for index in order))
            reading, stand = tuple(draw.randint(-2, 2) for _ in range(many)), tuple((draw.randint(-3, 3), 1) for _ in range(many))
            self.assertEqual(outsides(book), outsides(other))
            self.assertEqual(drift(book), drift(other))
            self.assertEqual((survives(book), place(book, stand), is_safe(book, reading), unsafe_pair(book, reading)),
                             (survives(other), place(other, stand), is_safe(other, reading), unsafe_pair(other, reading)))
            self.assertEqual(kept_rules(book), tuple(sorted(order[index] for index in kept_rules(other))))
            one, two = greatest_held(book, reading), greatest_held(other, reading)
            self.assertEqual(one[0], two[0])
            self.assertTrue(one[0] == "endless" or one[1] == two[1])
            for k in (1, 2):
                one, two = farthest(book, reading, k), farthest(other, reading, k)
                self.assertEqual(one[0], two[0])
                self.assertTrue(one[0] == "endless" or one[1] == two[1])
            self.assertIs(breaking(book) is None, breaking(other) is None)


class Values(TimedCase):
    def test_just_one_of_both(self):
        """[7]: a GOOD STAND, or MULTIPLIERS that prove that there is none; then a greatest VALUE with its proof, or any."""
        for seed in range(150):
            draw = random.Random(seed)
            frame = made_frame(draw)
            rules = tuple((draw.choice(("=", "<=", "<=")), tuple(draw.randint(-2, 2) for _ in frame[0]), draw.randint(-3, 3)) for _ in range(draw.randint(0, 6)))
            reading, paper = tuple(draw.randint(-2, 2) for _ in frame[0]), no_stand((frame, rules))
            if paper is None:
                self.assertIs(is_greatest((frame, rules), reading, greatest((frame, rules), reading)), True)
            else:
                self.assertIs(is_no_stand((frame, rules), paper), True)

    def test_each_vector_is_a_sum_of_few(self):
        """[8]"""
        for seed in range(100):
            draw = random.Random(seed)
            many = draw.randint(1, 6)
            space = made_space(draw, many)
            vector = made_vector(draw, space, many)
            parts = conformal(space, vector)
            self.assertLessEqual(len(parts), len(space))
            self.assertTrue({least for least, share in parts} <= set(least_changes(space, many)))
