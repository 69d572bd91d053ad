"""The whole document once more: what all modules together tell of drawn BOOKS and of what is done with them."""

import itertools
import random

from heldthrough.books import scaled
from heldthrough.directions import inner
from heldthrough.errors import Clash
from heldthrough.fractions import added, less, multiple, whole
from heldthrough.frames import touched
from heldthrough.held import place
from heldthrough.heldlimits import greatest_held, kept_rules, survives
from heldthrough.histories import first_broken, is_history, stands_of
from heldthrough.house import House
from heldthrough.limits import no_stand
from heldthrough.links import joined, linkings
from heldthrough.merges import change
from heldthrough.onemerge import breaking
from heldthrough.people import book_of, is_of_people, reach
from heldthrough.roads import beyond, road
from heldthrough.shares import is_within
from heldthrough.storetexts import read_history, show_history
from heldthrough.unseen import may, unseen_break
from heldthrough.wholes import from_scale, whole_break
from tests.makers import boxed, good, made_ruled_book, merge_by_words, numbers_of, shown, told
from tests.test_guarantees import corner, fresh_stand
from tests.timed import TimedCase
from tests.words import dot


def made_books(count, most=4):
    """Return the list of (source of chance, BOOK with GOOD STANDS)."""
    found = []
    for seed in range(count):
        draw = random.Random(7000 + seed)
        book = made_ruled_book(draw, draw.randint(1, most))
        if draw.random() < 0.5:
            book = boxed(book, draw.randint(1, 5))
        if no_stand(book) is None:
            found.append((draw, book))
    return found


def far_stand(draw, book):
    """Return a STAND that is INSIDE, mostly far away: near to a HELD one at which some reading is greatest."""
    found, begin = greatest_held(book, tuple(draw.randint(-2, 2) for _ in book[0][0])), inner(book)
    end = found[2] if found[0] == "at" else added(found[1], multiple(whole(5), found[2]))
    return added(begin, multiple(draw.choice(((1, 2), (7, 8))), less(end, begin)))


class Houses(TimedCase):
    def test_all_that_is_come_to(self):
        """[5] in a House: what any VERSION breaks is told to be open, all are HELD, and what survives stays GOOD."""
        versions, broken, looked = 0, 0, 0
        for draw, book in made_books(120):
            house = House(book, corner(draw, book))
            for name in ("left", "right"):
                house.point(name, 0)
            for _ in range(14):
                name, other = draw.choice(("main", "left", "right")), draw.choice(("main", "left", "right"))
                head = house.heads()[name]
                one, two = [draw.randrange(len(house.history())) for _ in range(2)]
                try:
                    word = draw.choice(("edit", "edit", "merge", "merge", "pick", "revert", "settle"))
                    if word == "edit":
                        house.edit(name, fresh_stand(draw, book, house.stand(head)))
                    elif word == "merge":
                        seen = house.looks(name, other)
                        version = house.merge(name, other)
                        if seen is not None:
                            looked += 1
                            kept = all(good((book[0], (book[1][index],)), house.stand(version)) for index in seen)
                            self.assertIs(good(book, house.stand(version)), kept)
                    elif word == "settle":
                        house.settle(name, other, corner(draw, book))
                    else:
                        getattr(house, word)(name, one, two)
                except Clash:
                    continue
            history, kept = house.history(), kept_rules(book)
            self.assertTrue(is_history(book, history))
            self.assertEqual(read_history(book, show_history(book, history)), history)
            self.assertEqual(sorted(house.open_rules() + kept), list(range(len(book[1]))))
            self.assertTrue(not house.survives() or first_broken(book, history) is None)
            for stand in house.stands():
                versions += 1
                broken += not good(book, stand)
                self.assertNotEqual(place(book, stand), "out")
                self.assertTrue(all(good((book[0], (book[1][index],)), stand) for index in kept))
            for name, head in house.heads().items():
                self.assertEqual(name in house.broken_heads(), not good(book, house.stand(head)))
                for pieces, stand in house.mends(name):
                    self.assertTrue(good(book, stand))
                    self.assertEqual(pieces == (), good(book, house.stand(head)))
        self.assertGreater(versions, 900)
        self.assertGreater(broken, 20)
        self.assertGreater(looked, 60)


class Roads(TimedCase):
    def test_what_is_inside_is_come_to(self):
        """[5]: each STAND that is INSIDE is that of some VERSION, and each number below a greatest VALUE is passed."""
        seen = 0
        for draw, book in made_books(120):
            stand = far_stand(draw, book)
            self.assertEqual(place(book, stand), "inside")
            history = road(book, stand)
            self.assertTrue(is_history(book, history))
            self.assertEqual(stands_of(book, history)[-1], stand)
            seen += len(history) > 1
            reading = tuple(draw.randint(-2, 2) for _ in book[0][0])
            most = greatest_held(book, reading)
            if most[0] == "at":
                bound = told(most[1]) - 1
                last = stands_of(book, beyond(book, reading, shown(bound)))[-1]
                self.assertTrue(bound < dot(reading, numbers_of(last)) <= told(most[1]))
        self.assertGreater(seen, 20)


class Surviving(TimedCase):
    def test_all_ways_to_tell_it(self):
        """[6]: survives, one merge that breaks it, LOTS of all groups, LINKINGS, and whole numbers tell the same."""
        seen = {True: 0, False: 0}
        for _, book in made_books(150):
            live, groups = survives(book), tuple(range(len(book[0][1])))
            seen[live] += 1
            self.assertIs(breaking(book) is None, live)
            self.assertIs(may(book, groups, groups), live)
            self.assertIs(unseen_break(book, groups, groups) is None, live)
            self.assertIs(from_scale(book) is None, live)
            self.assertEqual(() in linkings(book), live)
            if not live:
                scale = from_scale(book)[1]
                self.assertEqual(first_broken(scaled(book, scale), whole_break(book, scale)), 3)
            for linking in linkings(book):
                self.assertIs(survives(joined(book, linking)), True)
        self.assertGreater(min(seen.values()), 30)

    def test_branches_that_may_be_merged_unseen(self):
        """[9]: three branches, within LOTS any two of which may be merged, or within their shares."""
        unseen, within = 0, 0
        for draw, book in made_books(400):
            base = corner(draw, book)
            branches = [fresh_stand(draw, book, base) for _ in range(3)]
            lots = [touched(book[0], change(base, stand)) for stand in branches]
            may_be = all(may(book, one, other) for one, other in itertools.combinations(lots, 2))
            are_within = all(is_within(book, base, 3, stand) for stand in branches)
            limits = (book[0], tuple(rule for rule in book[1] if rule[0] == "<="))
            here = branches[0]
            for other in branches[1:]:
                here, clashing = merge_by_words(book[0], base, here, other)
                if clashing:
                    break
                if may_be:
                    unseen += here != other
                    self.assertTrue(good(book, here))
                if are_within:
                    within += here != other
                    self.assertTrue(good(limits, here))
        self.assertGreater(min(unseen, within), 30)


class Rights(TimedCase):
    def test_one_for_all(self):
        """A person who may change all cells reaches all that the BOOK lets; nobody reaches nothing."""
        for _, book in made_books(60):
            frame, start = book[0], inner(book)
            everything = tuple(range(len(frame[0])))
            self.assertEqual(kept_rules(book_of(book, start, (everything,)))[:len(kept_rules(book))], kept_rules(book))
            self.assertEqual(reach(book, ()), ())
            self.assertIs(survives(book_of(book, start, ())), True)
            history = (("first", start), ("merge", 0, 0, 0))
            self.assertIs(is_of_people(book, (), history), True)
