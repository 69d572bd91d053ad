"""[42]: a desk."""

import random

from heldthrough.booktexts import read_book, read_vector, show_book, show_vector
from heldthrough.desk import Desk
from heldthrough.errors import Clash, HeldError, NoCommand, NoName, NoText, NotGood, Nothing, NotInside, NoVersion, TooMany, Wrong
from heldthrough.fractions import show_fraction, vector_of
from heldthrough.held import place
from heldthrough.heldlimits import greatest_held
from heldthrough.house import House
from heldthrough.onemerge import breaking
from heldthrough.roads import road
from heldthrough.storetexts import show_history
from tests.makers import made_book, made_frame, made_stand, near_stand
from tests.test_safe import crowded
from tests.timed import TimedCase
from tests.values import ANY_VALUES

TEXT = "sheet usual\ncells a b c\ngroup a\ngroup b\nadded c\nrule 1 a 1 b <= 3\nrule 1 c <= 9"
BOOK = read_book(TEXT)
LINES = ["point side 0", "edit main a 2, c 4", "edit side b 3, c 2"]


def made(*lines):
    """Return a desk at which two branches were made, and these lines were executed."""
    desk = Desk(TEXT, "c 1")
    for line in [*LINES, *lines]:
        desk.execute(line)
    return desk


def state(desk):
    """Return all that the House of a desk tells of itself."""
    house = desk.house()
    return (house.book(), house.history(), house.heads(), house.stands())


def whole_of(text):
    """Return the integer of a text of any length."""
    total, figures = 0, text.lstrip("-")
    for begin in range(0, len(figures), 1000):
        part = figures[begin:begin + 1000]
        total = total * 10 ** len(part) + int(part)
    return -total if text.startswith("-") else total


class Made(TimedCase):
    def test_ordinary(self):
        desk = Desk(TEXT, "c 1")
        self.assertTrue(desk.house() == House(BOOK, read_vector(BOOK[0], "c 1")))
        self.assertTrue(Desk("  sheet  usual\n\ncells a\n added a", " ").house() == House(read_book("sheet usual\ncells a\nadded a"), vector_of((0,))))
        self.assertTrue(Desk(TEXT, "").house() == House(BOOK, vector_of((0, 0, 0))))

    def test_wrong(self):
        for thing in ANY_VALUES:
            if not isinstance(thing, str):
                for given, at in (((thing, "c 1"), 0), ((thing, thing), 0), ((TEXT, thing), 1), (("no sheet", thing), 1)):
                    with self.assertRaises(Wrong) as caught:
                        Desk(*given)
                    self.assertEqual(caught.exception.place, at)
                with self.assertRaises(Wrong) as caught:
                    Desk(TEXT, "").execute(thing)
                self.assertEqual(caught.exception.place, 0)

    def test_errors(self):
        for text, start, line in (("", "c 1", 1), ("sheet usual", "c 1", 1), ("sheet\n", "?", 0), (TEXT + "\nrule 1 d <= 3", "c 1", 7), (TEXT, "d 1", 0), (TEXT, "a 1, c 1,", 2), (TEXT, "a 1, a 1", 1), (TEXT, "c 1/0", 0), (TEXT, "a 9, b", 1)):
            with self.assertRaises(NoText) as caught:
                Desk(text, start)
            self.assertEqual(caught.exception.line, line, (text, start))
        for start, rule in (("a 4", 0), ("c 10", 1), ("a 4, c 10", 0)):
            with self.assertRaises(NotGood) as caught:
                Desk(TEXT, start)
            self.assertEqual(caught.exception.rule, rule)

    def test_house_is_a_twin(self):
        desk = made()
        house = desk.house()
        self.assertTrue(house == desk.house())
        self.assertIsNot(house, desk.house())
        house.drop("main")
        self.assertEqual(desk.execute("branches"), ["main 1", "side 2"])
        desk.execute("drop side")
        self.assertEqual(house.heads(), {"side": 2})
        house = desk.house()
        house.undo()
        self.assertEqual(house.heads(), {"main": 1, "side": 2})


class Commands(TimedCase):
    def test_answers(self):
        desk = made()
        for line, answer in (
            ("point third 0", ["done"]), ("drop third", ["done"]), ("stand 0", ["c 1"]), ("stand 2", ["b 3, c 2"]), ("broken", []), ("looks main side", ["0 1"]), ("looks side side", [""]),
            ("merge main side", ["3"]), ("stand 3", ["a 2, b 3, c 5"]), ("broken", ["main 0"]), ("open", ["0 1"]), ("survives", ["no"]), ("branches", ["main 3", "side 2"]), ("mends main", ["0", "1"]), ("mends side", ["none"]), ("looks main side", ["unknown"]),
            ("point other 3", ["done"]), ("broken", ["main 0", "other 0"]), ("settle other side a 1, b 1", ["4"]), ("edit other", ["5"]), ("stand 5", [""]), ("pick other 0 1", ["6"]), ("stand 6", ["a 2, c 3"]),
        ):
            self.assertEqual(desk.execute(line), answer, line)
        self.assertEqual(desk.execute("history"), ["first c 1", "edit 0 a 2, c 4", "edit 0 b 3, c 2", "merge 1 2 0", "settle 3 2 a 1, b 1", "edit 4", "pick 5 0 1"])
        self.assertEqual(desk.execute("book"), TEXT.split("\n"))
        self.assertEqual((desk.execute("rule -1 a <= 0"), desk.execute("book")[-1]), (["done"], "rule -1 a <= 0"))
        self.assertEqual((desk.execute("out 0"), desk.execute("book")[5:]), (["done"], ["rule 1 c <= 9", "rule -1 a <= 0"]))
        self.assertEqual((desk.execute("undo"), desk.execute("undo"), desk.execute("book")), (["done"], ["done"], TEXT.split("\n")))

    def test_reverts(self):
        desk = made("merge main side")
        self.assertEqual((desk.execute("revert main 0 1"), desk.execute("stand 4")), (["4"], ["b 3, c 2"]))
        self.assertEqual((desk.execute("revert main 0 2"), desk.execute("stand 5")), (["5"], ["c 1"]))

    def test_what_holds(self):
        desk = made()
        for line, answer in (
            ("most 1 a 1 b", ["endless"]), ("most", ["0"]), ("most 0 a", ["0"]), ("place a 9, b 9", ["inside"]), ("place", ["inside"]), ("place a 7/2", ["inside"]), ("road a 1", ["first a 1"]), ("road", ["first"]),
            ("out 1", ["done"]), ("out 0", ["done"]), ("survives", ["yes"]), ("open", [""]), ("break", []), ("broken", []), ("most 3 c", ["endless"]),
            ("rule 1 a 1 b <= 3", ["done"]), ("rule -2 a <= 1", ["done"]), ("rule -3 b <= 0", ["done"]), ("most 1 a 1 b", ["13/2"]), ("most 2 a -1 b", ["6"]), ("most -1 a", ["1/2"]), ("most -2 a", ["1"]), ("place a 4", ["out"]), ("place a 3", ["rim"]), ("place a 3, b 3", ["inside"]), ("place a 3, b 7/2", ["rim"]), ("place a 7/2, b 3", ["out"]), ("open", ["0"]),
        ):
            if line in ("place a 3", "place a 3, b 3", "place a 3, b 7/2", "place a 7/2, b 3", "place a 4"):
                answer = [place(desk.house().book(), read_vector(BOOK[0], line[6:]))]
            self.assertEqual(desk.execute(line), answer, line)
        book = desk.house().book()
        history = desk.execute("break")
        self.assertEqual(history, show_history(book, breaking(book)).split("\n"))
        self.assertEqual(len(history), 4)
        stand = read_vector(BOOK[0], "a 2, b 2")
        self.assertEqual(desk.execute("road a 2, b 2"), show_history(book, road(book, stand)).split("\n"))
        self.assertEqual(len(desk.execute("road a 2, b 2")), 4)

    def test_blanks(self):
        desk = made()
        self.assertEqual([desk.execute(line) for line in ("   stand    2  ", " edit   main   a   1 ,  c   2 ", "edit main ", " settle  main side a 1,b 1", "  most  1   a ", "rule   1  a   <=  3 ", " merge main    side ", "  undo")],
                         [["b 3, c 2"], ["3"], ["4"], ["5"], ["endless"], ["done"], ["6"], ["done"]])

    def test_no_commands(self):
        desk = made()
        before = state(desk)
        for line in (
            "", " ", "?", "stand", "stand 1 1", "stand a", "stand -1", "stand +1", "stand 01", "stand 00", "stand 1000", "stand 0001", "stand 1.0", "stand 1/1", "Stand 1", "stand\n1", "stand 1\n", "\nstand 1", "stand  1 ,",
            "point", "point side", "point side 1 2", "point Side 1", "point side x", "point 1 side", "point side1 1", "point abcdefghijklm 1", "point side -0", "point side 1000",
            "drop", "drop main side", "drop 1", "rule", "rule 1 a", "rule 1 a <=", "rule 1 a <= 1 b", "rule a <= 1", "rule 1 d <= 3", "rule 1 a 2 a <= 3", "rule 1 a < 3", "rule 1 a <= 3/2", "rule 01 a <= 3", "rule 1a <= 3",
            "out", "out a", "out -1", "out 1 2", "out 01", "out 1000", "undo 1", "undo it", "edit", "edit a 1", "edit main a", "edit main a 1 b", "edit main a 1 b 2", "edit main a 1,", "edit main ,", "edit main d 1", "edit main a 1, a 1", "edit main a 2/4", "edit Main a 1",
            "merge", "merge main", "merge main side main", "merge main 1", "settle main", "settle", "settle main a 1", "settle main side a", "pick main", "pick main 0", "pick main 0 1 2", "pick main a b", "pick main 0 01", "pick 0 1", "revert main 0", "revert main 0 -1", "revert main 0 1000",
            "book 1", "history 1", "branches main", "broken main", "open 0", "survives 1", "most 1", "most a", "most 1 a <= 3", "most 1 a 1 a", "most 1/2 a", "place a", "place a 1 1", "road a", "road a 1,,", "break 1", "looks main", "looks", "looks main side main", "mends", "mends 1", "mends main side", "help", "edit\tmain", "survives\n", "merge main side\n",
        ):
            with self.assertRaises(NoCommand) as caught:
                desk.execute(line)
            self.assertEqual(caught.exception.line, line)
            self.assertEqual(state(desk), before, line)
        for thing in ANY_VALUES:
            if isinstance(thing, str):
                with self.assertRaises(NoCommand) as caught:
                    desk.execute(thing)
                self.assertIs(caught.exception.line, thing)

    def test_numbers_of_versions(self):
        """VERSIONS and INDEXES of one to three digits; what none is, is told by the call."""
        desk = made()
        for line, error, field in (
            ("stand 3", NoVersion, 3), ("stand 10", NoVersion, 10), ("stand 999", NoVersion, 999), ("point side 100", NoVersion, 100), ("pick main 50 60", NoVersion, 50), ("pick main 0 60", NoVersion, 60), ("revert main 7 999", NoVersion, 7),
            ("drop new", NoName, "new"), ("edit new a 9", NoName, "new"), ("edit main a 9", NotGood, 0), ("edit main c 10", NotGood, 1), ("merge main new", NoName, "new"), ("merge new old", NoName, "new"), ("settle main side a 9", NotGood, 0), ("rule 1 b <= 2", NotGood, 2), ("looks main new", NoName, "new"), ("mends new", NoName, "new"), ("pick new 0 99", NoName, "new"),
        ):
            before = state(desk)
            with self.assertRaises(error) as caught:
                desk.execute(line)
            self.assertEqual(list(vars(caught.exception).values()), [field], line)
            self.assertEqual(state(desk), before)
        for line in ("out 2", "out 999"):
            with self.assertRaises(Nothing):
                desk.execute(line)
        for _ in range(3):
            desk.execute("undo")
        with self.assertRaises(Nothing):
            desk.execute("undo")
        for at in range(1, 120):
            self.assertEqual(desk.execute("edit main"), [str(at)])
        self.assertEqual([desk.execute(line) for line in ("stand 9", "stand 99", "stand 119", "point side 105", "branches")], [[""], [""], [""], ["done"], ["main 119", "side 105"]])

    def test_clashes(self):
        desk = made("point third 0", "edit third a 1")
        for line in ("merge main third", "looks main third", "pick main 0 3", "revert main 0 3"):
            with self.assertRaises(Clash) as caught:
                desk.execute(line)
            self.assertEqual(caught.exception.groups, (0,))

    def test_not_inside(self):
        desk = Desk("sheet strict\ncells a b\ngroup a\ngroup b\nrule 1 a <= 3", "")
        for line in ("road a 4", "road b 1, a 7/2"):
            with self.assertRaises(NotInside):
                desk.execute(line)
        self.assertEqual(desk.execute("place a 4"), ["out"])
        self.assertEqual(desk.execute("road a 3, b -1/3"), ["first a 3, b -1/3"])

    def test_too_many(self):
        desk = Desk(show_book(crowded()), "")
        for line in ("survives", "open", "most 1 a", "place a 1", "road a 1", "break"):
            found = self.quick(desk.execute, line)
            self.assertIsInstance(found, TooMany)
            self.assertEqual(found.most, 400)
        self.assertEqual(desk.execute("road"), ["first"])
        desk = Desk("sheet strict\ncells a b\ngroup a\ngroup b\nrule 1 a -1 b <= 1\nrule -1 a 1 b <= 1", "")
        found = self.quick(desk.execute, "road a 999999, b -999999")
        self.assertIsInstance(found, TooMany)
        self.assertEqual(found.most, 4000)

    def test_long_numbers(self):
        """What is come to has numbers of any length."""
        one, other = 10 ** 39 + 7, 10 ** 39 + 12345
        rules = f"rule {one} a -{other} b <= {one}\nrule -{other} a {one + 3} b <= {other}\n" + "\n".join(f"rule {sign} {cell} <= 500" for cell in "ab" for sign in (1, -1))
        desk = Desk("sheet strict\ncells a b\ngroup a\ngroup b\n" + rules, "")
        lines = self.quick(desk.execute, "road a 100, b -100")
        history = road(desk.house().book(), vector_of((100, -100)))
        self.assertEqual(len(lines), len(history))
        self.assertGreater(max(len(line) for line in lines), 10000)
        for line, deed in zip(lines, history):
            if deed[0] == "edit":
                self.assertTrue(line.startswith(f"edit {deed[1]} "))
                told = [text.split(" ")[1].partition("/") for text in line.split(" ", 2)[2].split(", ")]
                self.assertEqual([(whole_of(num), whole_of(den or "1")) for num, _, den in told], [number for number in deed[2] if number[0] != 0])

    def test_by_chance(self):
        """Each line does what the call does that it names."""
        answered = {}
        for seed in range(300):
            draw = random.Random(seed)
            frame = made_frame(draw, draw.randint(1, 3))
            start = made_stand(draw, frame)
            book = made_book(draw, frame, start)
            desk, house = Desk(show_book(book), show_vector(frame, start)), House(book, start)
            for _ in range(25):
                stands = house.stands()
                name, other = [draw.choice(("main", "side", "side", "none")) for _ in range(2)]
                one, two = [draw.randint(0, len(stands)) for _ in range(2)]
                fresh = near_stand(draw, frame, draw.choice(stands))
                shown = show_vector(frame, fresh)
                reading = tuple(draw.randint(-1, 1) for _ in frame[0])
                words = " ".join(f"{number} {cell}" for number, cell in zip(reading, frame[0]) if number)
                at = lambda: house.book()
                line, call = draw.choice((
                    (f"point {name} {one}", lambda: house.point(name, one) or ["done"]), (f"edit {name} {shown}", lambda: [str(house.edit(name, fresh))]), (f"edit {name} {shown}", lambda: [str(house.edit(name, fresh))]), (f"merge {name} {other}", lambda: [str(house.merge(name, other))]),
                    (f"settle {name} {other} {shown}", lambda: [str(house.settle(name, other, fresh))]), (f"pick {name} {one} {two}", lambda: [str(house.pick(name, one, two))]), (f"revert {name} {one} {two}", lambda: [str(house.revert(name, one, two))]),
                    (f"rule {words} <= 7", lambda: house.with_rule(("<=", reading, 7)) or ["done"]), (f"out {one}", lambda: house.without_rule(one) or ["done"]), ("undo", lambda: house.undo() or ["done"]), ("book", lambda: show_book(at()).split("\n")), ("history", lambda: show_history(at(), house.history()).split("\n")),
                    ("branches", lambda: [f"{told} {head}" for told, head in sorted(house.heads().items())]), (f"stand {one}", lambda: [show_vector(frame, house.stand(one))]), ("broken", lambda: [" ".join([told, *map(str, rules)]) for told, rules in sorted(house.broken_heads().items())]),
                    ("open", lambda: [" ".join(map(str, house.open_rules()))]), ("survives", lambda: ["yes" if house.survives() else "no"]), (f"most {words}", lambda: [show_fraction(greatest_held(at(), reading)[1]) if greatest_held(at(), reading)[0] == "at" else "endless"]), (f"place {shown}", lambda: [place(at(), fresh)]),
                    (f"road {shown}", lambda: show_history(at(), road(at(), fresh)).split("\n")), ("break", lambda: [] if breaking(at()) is None else show_history(at(), breaking(at())).split("\n")),
                    (f"looks {name} {other}", lambda: ["unknown" if house.looks(name, other) is None else " ".join(map(str, house.looks(name, other)))]), (f"mends {name}", lambda: [" ".join(map(str, pieces)) or "none" for pieces, _ in house.mends(name)]),
                ))
                try:
                    expected = call()
                    answered[line.split()[0]] = answered.get(line.split()[0], 0) + 1
                except HeldError as error:
                    expected = (type(error), vars(error))
                try:
                    found = desk.execute(line)
                except HeldError as error:
                    found = (type(error), vars(error))
                self.assertEqual(found, expected, line)
                self.assertTrue(desk.house() == house)
        self.assertEqual(len(answered), 22)
        self.assertGreater(min(answered.values()), 8)
