"""[41]: a House."""

import copy
import random

from heldthrough.booktexts import read_book, read_vector
from heldthrough.errors import Clash, HeldError, NoName, NotGood, Nothing, NoVersion, TooMany, Wrong
from heldthrough.fractions import vector_of
from heldthrough.heldlimits import kept_rules, survives
from heldthrough.histories import is_history, last_common, stands_of
from heldthrough.house import House
from heldthrough.mends import mends
from heldthrough.unseen import looks_needed
from tests.makers import good, made_book, made_frame, made_stand, merge_by_words, near_stand
from tests.test_limits import NONE
from tests.test_safe import crowded
from tests.timed import TimedCase
from tests.values import ANY_VALUES

BOOK = read_book("sheet usual\ncells a b c\ngroup a\ngroup b\nadded c\nrule 1 a 1 b <= 3\nrule 1 c <= 9")
FRAME = BOOK[0]


def stand(text):
    """Return a STAND of the BOOK."""
    return read_vector(FRAME, text)


def made():
    """Return a House with two branches that can be merged to what is not GOOD."""
    house = House(BOOK, stand("c 1"))
    house.point("side", 0)
    house.edit("main", stand("a 2, c 4"))
    house.edit("side", stand("b 3, c 2"))
    return house


def state(house):
    """Return all that a House tells of itself."""
    return (house.book(), house.history(), house.heads(), house.stands())


class Errors(TimedCase):
    def raised(self, error, call, *given):
        """Check that a call raises just this error; return it."""
        with self.assertRaises(error) as caught:
            call(*given)
        self.assertIs(type(caught.exception), error)
        return caught.exception

    def test_made(self):
        start = stand("c 1")
        for thing in ANY_VALUES:
            if not (isinstance(thing, tuple) and len(thing) == 2 and thing[1:] == ((),)):
                self.assertEqual(self.raised(Wrong, House, thing, start).place, 0)
                self.assertEqual(self.raised(Wrong, House, thing, thing).place, 0)
            if repr(thing) != repr(((0, 1),) * 3):
                self.assertEqual(self.raised(Wrong, House, BOOK, thing).place, 1)
        for text, rule in (("a 4", 0), ("c 10", 1), ("a 3, b 1/2, c 99", 0)):
            self.assertEqual(self.raised(NotGood, House, BOOK, stand(text)).rule, rule)
        self.assertEqual(self.raised(NotGood, House, NONE[3], vector_of((0, 0))).rule, 0)

    def test_wrong(self):
        """Each argument of any value, the first one that is wrong, ahead of all other errors; nothing is changed."""
        house = made()
        before, twin = copy.deepcopy(state(house)), house.twin()
        here, name = stand("a 1"), "main"
        calls = {
            house.stand: (0,), house.point: (name, 0), house.drop: (name,), house.edit: (name, here), house.merge: (name, "side"), house.settle: (name, "side", here), house.pick: (name, 0, 1), house.revert: (name, 0, 1),
            house.with_rule: (BOOK[1][0],), house.without_rule: (0,), house.looks: (name, "side"), house.mends: (name,),
        }
        for call, given in calls.items():
            for place in range(len(given)):
                for thing in [*ANY_VALUES, "Main", "main ", "a" * 13, ("<=", (1, 0), 3), ((1, 2),) * 2, ((2, 4),) * 3]:
                    kind = type(given[place])
                    if (kind is str and thing in ("a", "usual", "first", "none", "at", "main")) or (kind is int and type(thing) is int) or repr(thing) == repr(((0, 1),) * 3) or repr(thing) == repr(("=", (0, 0, 0), 0)):
                        continue
                    told = ["nobody", -1, stand("a 9")]
                    worse = [told[(str, int, tuple).index(type(one))] for one in given[:place]] + [thing] * (len(given) - place)
                    self.assertEqual(self.raised(Wrong, call, *given[:place], thing, *given[place + 1:]).place, place, (call, thing))
                    self.assertEqual(self.raised(Wrong, call, *worse).place, place)
        self.assertEqual((state(house), house == twin), (before, True))
        house.undo()
        self.assertEqual(house.heads(), {"main": 1, "side": 0})

    def test_order(self):
        """Wrong, then NoName, the first one first, then NoVersion, begin ahead of end, then NotGood or Clash."""
        house = made()
        house.point("third", 0)
        house.edit("third", stand("a 1"))
        before = copy.deepcopy(state(house))
        bad = stand("a 9")
        for call, given, error, field in (
            (house.stand, (4,), NoVersion, 4), (house.stand, (-1,), NoVersion, -1), (house.point, ("main", 4), NoVersion, 4), (house.point, ("new", -1), NoVersion, -1), (house.drop, ("new",), NoName, "new"),
            (house.edit, ("new", bad), NoName, "new"), (house.edit, ("main", bad), NotGood, 0), (house.edit, ("main", stand("c 10")), NotGood, 1), (house.merge, ("new", "old"), NoName, "new"), (house.merge, ("main", "old"), NoName, "old"), (house.merge, ("main", "third"), Clash, (0,)),
            (house.settle, ("new", "old", bad), NoName, "new"), (house.settle, ("main", "old", bad), NoName, "old"), (house.settle, ("main", "third", bad), NotGood, 0),
            (house.pick, ("new", 9, 10), NoName, "new"), (house.pick, ("main", 9, 10), NoVersion, 9), (house.pick, ("main", 0, 10), NoVersion, 10), (house.pick, ("main", -2, -1), NoVersion, -2), (house.pick, ("main", 0, 3), Clash, (0,)),
            (house.revert, ("new", 9, 10), NoName, "new"), (house.revert, ("main", 9, 10), NoVersion, 9), (house.revert, ("main", 0, 10), NoVersion, 10), (house.revert, ("main", 0, 3), Clash, (0,)),
            (house.with_rule, (("<=", (1, 0, 0), 1),), NotGood, 2), (house.with_rule, (("=", (0, 0, 0), 1),), NotGood, 2), (house.looks, ("new", "old"), NoName, "new"), (house.looks, ("main", "old"), NoName, "old"), (house.looks, ("main", "third"), Clash, (0,)), (house.mends, ("new",), NoName, "new"),
        ):
            found = self.raised(error, call, *given)
            self.assertEqual(list(vars(found).values()), [field])
            self.assertEqual(state(house), before)
        for index in (2, -1, 99):
            self.assertEqual(vars(self.raised(Nothing, house.without_rule, index)), {})
        self.assertEqual(state(house), before)
        house.undo()
        self.assertEqual(len(house.history()), 3)
        house.undo()
        self.assertNotIn("third", house.heads())

    def test_nothing_to_undo(self):
        house = House(BOOK, stand(""))
        self.raised(Nothing, house.undo)
        for call, given in ((house.point, ("main", 0)), (house.drop, ("main",)), (house.with_rule, (("<=", (1, 1, 1), 9),))):
            before = state(house)
            self.assertIsNone(call(*given))
            self.assertIsNone(house.undo())
            self.assertEqual(state(house), before)
            self.raised(Nothing, house.undo)


class Calls(TimedCase):
    def test_new(self):
        start = stand("a 1, c 1/2")
        house = House(BOOK, start)
        self.assertEqual(state(house), (BOOK, (("first", start),), {"main": 0}, [start]))
        self.assertEqual((house.stand(0), house.survives(), house.open_rules(), house.broken_heads()), (start, False, (0, 1), {}))

    def test_merges(self):
        house = made()
        self.assertEqual(house.merge("main", "side"), 3)
        self.assertEqual((house.history()[3], house.stand(3), house.heads()), (("merge", 1, 2, 0), stand("a 2, b 3, c 5"), {"main": 3, "side": 2}))
        self.assertEqual(house.broken_heads(), {"main": (0,)})
        self.assertEqual((house.settle("side", "main", stand("a 1")), house.history()[4], house.heads()), (4, ("settle", 2, 3, stand("a 1")), {"main": 3, "side": 4}))

    def test_picks_and_reverts(self):
        house = made()
        self.assertEqual((house.pick("main", 0, 2), house.history()[3], house.stand(3)), (3, ("pick", 1, 0, 2), stand("a 2, b 3, c 5")))
        self.assertEqual((house.revert("main", 0, 1), house.history()[4], house.stand(4)), (4, ("revert", 3, 0, 1), stand("b 3, c 2")))
        self.assertEqual((house.pick("side", 1, 1), house.stand(5), house.heads()), (5, stand("b 3, c 2"), {"main": 4, "side": 5}))
        self.assertTrue(is_history(BOOK, house.history()))

    def test_points_and_drops(self):
        house = made()
        house.point("zoo", 2)
        house.point("main", 0)
        house.point("ant", 1)
        self.assertEqual(list(house.heads().items()), [("ant", 1), ("main", 0), ("side", 2), ("zoo", 2)])
        house.drop("main")
        house.drop("zoo")
        self.assertEqual(list(house.heads().items()), [("ant", 1), ("side", 2)])
        house.drop("ant")
        house.drop("side")
        self.assertEqual((house.heads(), house.broken_heads(), len(house.history())), ({}, {}, 3))
        house.point("main", 2)
        self.assertEqual((house.heads(), house.edit("main", stand("c 9"))), ({"main": 2}, 3))

    def test_greatest_of_two_last_elders(self):
        """Two branches merged into each other have two LAST COMMON ELDERS: the greatest of them is taken."""
        house = House(BOOK, stand(""))
        house.point("side", 0)
        house.edit("main", stand("c 1"))
        house.edit("side", stand("c 2"))
        house.point("elder", 1)
        house.merge("main", "side")
        house.merge("side", "elder")
        self.assertEqual(last_common(house.history(), 3, 4), (1, 2))
        self.assertEqual((house.merge("main", "side"), house.history()[5], house.stand(5)), (5, ("merge", 3, 4, 2), stand("c 4")))
        self.assertEqual(house.looks("side", "main"), ())

    def test_rules(self):
        house = made()
        rule = ("<=", (1, 0, 0), 2)
        self.assertIsNone(house.with_rule(rule))
        self.assertEqual(house.book(), (FRAME, BOOK[1] + (rule,)))
        with self.assertRaises(NotGood) as caught:
            house.edit("main", stand("a 3"))
        self.assertEqual(caught.exception.rule, 2)
        house.without_rule(0)
        self.assertEqual(house.book()[1], (BOOK[1][1], rule))
        self.assertEqual(house.merge("main", "side"), 3)
        self.assertEqual((house.broken_heads(), house.open_rules()), ({}, (0,)))
        house.without_rule(0)
        self.assertEqual((house.book()[1], house.survives(), house.open_rules()), ((rule,), True, ()))
        house.with_rule(("<=", (1, 1, 0), 4))
        self.assertEqual((house.broken_heads(), house.survives()), ({"main": (1,)}, False))

    def test_a_rule_is_asked_of_stands_that_are_told_alone(self):
        """What merges, picks and reverts made need not keep it."""
        house = made()
        house.merge("main", "side")
        self.assertIsNone(house.with_rule(("<=", (1, 1, 0), 3)))
        self.assertIsNone(house.with_rule(("<=", (1, 1, 0), 4)))
        house.settle("main", "side", stand("a 3"))
        with self.assertRaises(NotGood) as caught:
            house.with_rule(("<=", (1, 0, 0), 2))
        self.assertEqual(caught.exception.rule, 4)
        self.assertEqual(house.broken_heads(), {})

    def test_looks(self):
        house = made()
        self.assertEqual(house.looks("main", "side"), (0, 1))
        house.merge("main", "side")
        self.assertIsNone(house.looks("main", "side"))
        self.assertIsNone(house.looks("side", "main"))
        house.point("fork", 3)
        house.edit("fork", stand("a 1, b 1"))
        house.point("main", 3)
        house.edit("main", stand("a 2, b 1"))
        self.assertIsNone(house.looks("main", "fork"))
        house.point("other", 1)
        self.assertEqual(house.looks("other", "side"), (0, 1))

    def test_looks_and_clashes(self):
        house = House(BOOK, stand(""))
        house.point("side", 0)
        house.edit("main", stand("a 1"))
        house.edit("side", stand("a 2"))
        with self.assertRaises(Clash) as caught:
            house.looks("main", "side")
        self.assertEqual(caught.exception.groups, (0,))
        house.without_rule(0)
        house.without_rule(0)
        house.with_rule(("<=", (1, 0, 0), 2))
        house.edit("main", stand("a 2"))
        house.pick("main", 0, 0)
        self.assertEqual(house.looks("main", "side"), ())

    def test_mends(self):
        house = made()
        self.assertEqual(house.mends("main"), (((), stand("a 2, c 4")),))
        house.merge("main", "side")
        self.assertEqual(house.mends("main"), mends(BOOK, stand("a 2, b 3, c 5")))
        self.assertEqual([pieces for pieces, _ in house.mends("main")], [(0,), (1,)])

    def test_too_many(self):
        """As survives raises it."""
        house = House(crowded(), vector_of((0,) * 8))
        for call in (house.survives, house.open_rules):
            found = self.quick(call)
            self.assertIsInstance(found, TooMany)
            self.assertEqual(found.most, 400)
        self.assertEqual(len(house.history()), 1)


class Twins(TimedCase):
    def test_equal(self):
        one, other = made(), made()
        self.assertTrue(one == other and not one != other)
        other.point("main", 1)
        self.assertTrue(one == other)
        other.drop("side")
        self.assertFalse(one == other)
        other.point("side", 2)
        self.assertTrue(one == other)
        other.with_rule(BOOK[1][0])
        self.assertFalse(one == other)
        other.undo()
        other.edit("main", stand("a 2, c 4"))
        other.point("main", 1)
        self.assertFalse(one == other)
        for thing in ANY_VALUES:
            self.assertIs(one == thing, False)
            self.assertIs(thing == one, False)
            self.assertIs(one != thing, True)
        self.assertFalse(House(BOOK, stand("")) == House(BOOK, stand("a 1")))
        self.assertTrue(House(BOOK, stand("")) == House(BOOK, stand("")))
        self.assertFalse(House(BOOK, stand("")) == House((FRAME, BOOK[1][:1]), stand("")))

    def test_twin(self):
        house = made()
        twin = house.twin()
        self.assertTrue(twin == house)
        self.assertIsNot(twin, house)
        twin.merge("main", "side")
        self.assertEqual((len(house.history()), len(twin.history())), (3, 4))
        house.drop("side")
        self.assertEqual(sorted(twin.heads()), ["main", "side"])
        for _ in range(4):
            twin.undo()
        self.assertEqual(twin.heads(), {"main": 0})
        with self.assertRaises(Nothing):
            twin.undo()
        for _ in range(4):
            house.undo()
        self.assertTrue(house == twin)

    def test_what_is_returned_is_new(self):
        house = made()
        house.merge("main", "side")
        before = copy.deepcopy(state(house))
        for call in (house.heads, house.broken_heads):
            found = call()
            self.assertIsNot(found, call())
            found["main"] = 99
            found.clear()
        house.stands().clear()
        house.stands().append(None)
        self.assertIsNot(house.stands(), house.stands())
        self.assertEqual(state(house), before)
        self.assertEqual(house.broken_heads(), {"main": (0,)})


class Model:
    """A House as the document tells it, without haste: all of it is copied ahead of each call."""

    def __init__(self, book, first):
        self.book, self.history, self.stands, self.heads, self.past = book, [("first", first)], [first], {"main": 0}, []

    def call(self, word, given):
        """Do a call; return its answer, or the error that it raises."""
        kept = copy.deepcopy((self.book, self.history, self.stands, self.heads))
        try:
            found = getattr(self, word)(*given)
        except HeldError as error:
            self.book, self.history, self.stands, self.heads = kept
            return (type(error), vars(error))
        if word != "undo":
            self.past.append(kept)
        return found

    def named(self, *names):
        for name in names:
            if name not in self.heads:
                raise NoName(name)

    def numbered(self, *versions):
        for version in versions:
            if not 0 <= version < len(self.history):
                raise NoVersion(version)

    def put(self, name, deed, fresh):
        self.history.append(deed)
        self.stands.append(fresh)
        self.heads[name] = len(self.history) - 1
        return self.heads[name]

    def told(self, name, deed):
        for index, rule in enumerate(self.book[1]):
            if not good((self.book[0], (rule,)), deed[-1]):
                raise NotGood(index)
        return self.put(name, deed, deed[-1])

    def made(self, name, deed, sides):
        fresh, clashing = merge_by_words(self.book[0], *[self.stands[version] for version in sides])
        if clashing:
            raise Clash(clashing)
        return self.put(name, deed, fresh)

    def point(self, name, version):
        self.numbered(version)
        self.heads[name] = version

    def drop(self, name):
        self.named(name)
        del self.heads[name]

    def edit(self, name, fresh):
        self.named(name)
        return self.told(name, ("edit", self.heads[name], fresh))

    def settle(self, name, other, fresh):
        self.named(name, other)
        return self.told(name, ("settle", self.heads[name], self.heads[other], fresh))

    def merge(self, name, other):
        self.named(name, other)
        one, two = self.heads[name], self.heads[other]
        base = max(last_common(tuple(self.history), one, two))
        return self.made(name, ("merge", one, two, base), (base, one, two))

    def pick(self, name, begin, end):
        self.named(name)
        self.numbered(begin, end)
        return self.made(name, ("pick", self.heads[name], begin, end), (begin, end, self.heads[name]))

    def revert(self, name, begin, end):
        self.named(name)
        self.numbered(begin, end)
        return self.made(name, ("revert", self.heads[name], begin, end), (end, begin, self.heads[name]))

    def with_rule(self, rule):
        if not all(good((self.book[0], (rule,)), deed[-1]) for deed in self.history if deed[0] in ("first", "edit", "settle")):
            raise NotGood(len(self.book[1]))
        self.book = (self.book[0], self.book[1] + (rule,))

    def without_rule(self, index):
        if not 0 <= index < len(self.book[1]):
            raise Nothing()
        self.book = (self.book[0], self.book[1][:index] + self.book[1][index + 1:])

    def undo(self):
        if not self.past:
            raise Nothing()
        self.book, self.history, self.stands, self.heads = self.past.pop()


class ByChance(TimedCase):
    def test_all_calls(self):
        """Long runs of calls, among them such that raise, and undo: always the same as the model."""
        raised, answered, words = {}, {}, ["point", "drop", "edit", "edit", "edit", "merge", "merge", "settle", "pick", "revert", "with_rule", "without_rule", "undo", "undo"]
        for seed in range(150):
            draw = random.Random(seed)
            frame = made_frame(draw, draw.randint(1, 4))
            first = made_stand(draw, frame)
            book = made_book(draw, frame, first)
            house, model, twins = House(book, first), Model(book, first), []
            for _ in range(40):
                word = draw.choice(words)
                name, other = [draw.choice(("main", "main", "side", "side", "third", "none")) for _ in range(2)]
                one, two = [draw.randint(-1, len(model.history)) if draw.random() < 0.2 else draw.randrange(len(model.history)) for _ in range(2)]
                fresh = near_stand(draw, frame, draw.choice(model.stands))
                rule = ("<=", tuple(draw.randint(-1, 1) for _ in frame[0]), draw.randint(2, 9))
                given = {"point": (name, one), "drop": (name,), "edit": (name, fresh), "merge": (name, other), "settle": (name, other, fresh), "pick": (name, one, two), "revert": (name, one, two), "with_rule": (rule,), "without_rule": (draw.randint(-1, 4),), "undo": ()}[word]
                if word == "drop" and draw.random() < 0.6:
                    continue
                before = state(house)
                expected = model.call(word, given)
                try:
                    found = getattr(house, word)(*given)
                    answered[word] = answered.get(word, 0) + 1
                except HeldError as error:
                    found = (type(error), vars(error))
                    self.assertEqual(state(house), before)
                    raised[type(error)] = raised.get(type(error), 0) + 1
                self.assertEqual(found, expected, (word, given))
                self.assertEqual(state(house), (model.book, tuple(model.history), model.heads, model.stands))
                self.assertEqual(list(house.heads()), sorted(model.heads))
                if draw.random() < 0.1:
                    twins.append((house.twin(), state(house)))
            for twin, kept in twins:
                self.assertEqual(state(twin), kept)
            self.check_told(house, model)
        self.assertGreater(min(raised[error] for error in (NoName, NoVersion, NotGood, Clash, Nothing)), 20)
        self.assertGreater(min(answered[word] for word in words), 60)

    def check_told(self, house, model):
        """Check what a House tells of what holds."""
        book, history = model.book, tuple(model.history)
        self.assertTrue(is_history(book, history))
        self.assertEqual(tuple(house.stands()), stands_of(book, history))
        self.assertIs(house.survives(), survives(book))
        self.assertEqual(sorted(house.open_rules() + kept_rules(book)), list(range(len(book[1]))))
        broken = {}
        for name in sorted(model.heads):
            rules = tuple(index for index, rule in enumerate(book[1]) if not good((book[0], (rule,)), model.stands[model.heads[name]]))
            if rules:
                broken[name] = rules
            self.assertEqual(house.mends(name), mends(book, model.stands[model.heads[name]]))
            for other in model.heads:
                one, two = model.heads[name], model.heads[other]
                stands = [model.stands[version] for version in (max(last_common(history, one, two)), one, two)]
                if not all(good(book, one) for one in stands):
                    self.assertIsNone(house.looks(name, other))
                elif merge_by_words(book[0], *stands)[1]:
                    with self.assertRaises(Clash):
                        house.looks(name, other)
                else:
                    self.assertEqual(house.looks(name, other), looks_needed(book, *stands))
        self.assertEqual(list(house.broken_heads().items()), list(broken.items()))
