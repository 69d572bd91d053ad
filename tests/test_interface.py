"""The whole interface: what it lists is there; [3] and [4] over all that can be called."""

import copy
import importlib
import inspect
import pathlib
import re
import types

from heldthrough.booktexts import read_book, read_vector
from heldthrough.crossing import families
from heldthrough.desk import Desk
from heldthrough.errors import HeldError, Wrong
from heldthrough.fractions import vector_of
from heldthrough.held import held_paper
from heldthrough.heldlimits import greatest_held
from heldthrough.house import House
from heldthrough.leastchanges import conformal, least_changes
from heldthrough.limits import greatest
from heldthrough.mends import mends
from heldthrough.programs import solved
from heldthrough.unseen import unseen_break
from heldthrough.wholes import from_scale
from tests.test_anyrows import BASE, MINE, SHOP, YOURS
from tests.test_limits import NONE
from tests.timed import TimedCase
from tests.values import ANY_VALUES

PACKAGE = pathlib.Path(__file__).parent.parent / "heldthrough"

# The document's list, without the kinds of values: the file, then its names with their arguments; [R] stands behind those that take any values.
INTERFACE = """
errors: HeldError; Clash(groups); NoCommand(line); NoName(name); NoStand(paper); NoText(line); NoVersion(index); NotGood(rule); NotInside(); Nothing(); TooMany(most); Wrong(place)
forms: is_integer(thing); is_name(thing); is_fraction(thing); is_frame(thing); is_lot(frame, thing); is_vector(frame, thing); is_reading(frame, thing); is_rule(frame, thing); is_book(thing)
fractions: fraction(num, den); whole(integer); plus(one, other); minus(one, other); times(one, other); over(one, other); read_fraction(text) [R]; is_less(one, other); is_at_most(one, other); sign_of(one); floor_of(one); nought(frame); added(one, other); less(one, other); multiple(share, vector); vector_of(numbers); show_fraction(one)
frames: group_of(frame, cell); places_of(frame, lot); added_places(frame); moved(vector); touched(frame, vector); part(frame, vector, places); linked(frame, lots); taken(frame, cell); with_way(frame, way); renamed(frame, names)
books: value(reading, vector); keeps(rule, stand); is_good(book, stand); broken(book, stand); with_rule(book, rule); without_rule(book, index); in_frame(book, frame); scaled(book, times)
booktexts: show_book(book); show_vector(frame, vector); read_book(text) [R]; read_vector(frame, text) [R]
merges: change(one, other); clashes(frame, base, mine, yours); merged(frame, base, mine, yours); picked(frame, onto, begin, end); reverted(frame, onto, begin, end)
histories: history_fault(book, thing); is_history(book, thing); stands_of(book, history); parents_of(history, version); elders_of(history, version); common_elders(history, one, other); last_common(history, one, other); first_broken(book, history); shrunk(book, history, stand, share); grafted(history, version, other)
storetexts: show_history(book, history); read_history(book, text) [R]
programs: solved(rows, goal); is_solved(rows, goal, thing)
limits: limit_by(book, multipliers); greatest(book, reading); no_stand(book); some_stand(book); is_multipliers(book, thing); is_no_stand(book, thing); is_greatest(book, reading, thing); follows(book, rule)
spaces: cleared(vector); space_of(vectors, many); joined(one, other, many); cut(one, other, many); upright(space, many); within(space, places, many); is_space(many, thing); has(space, vector)
directions: exact_rules(book); equations(book); inner(book); is_inner(book, thing); directions(book)
leastchanges: least_changes(space, many); conformal(space, vector); is_least_change(space, many, thing); is_conformal(space, vector, thing)
crossing: crosses(frame, one, other); uncrossed(frame, changes); families(frame, changes); outside(frame, changes, family)
drift: do_agree(frame, one, other); is_closed(frame, space); common_part(frame, one, other); agreeing(frame, space); drift(book); drift_steps(book); off_flat(book); parting_pair(frame, space)
safe: outsides(book); is_safe(book, reading); unsafe_pair(book, reading)
held: place(book, stand); held_paper(book, stand); is_held_paper(book, stand, thing)
heldlimits: greatest_held(book, reading); kept_rules(book); is_greatest_held(book, reading, thing); holds(book, rule); survives(book)
onemerge: come_to(base, stands); farthest(book, reading, k); breaking(book)
roads: road(book, stand); beyond(book, reading, bound)
links: is_linking(frame, thing); is_finer(one, other); is_least_linking(book, linking); joined(book, linking); finer_ones(linking); linkings(book); rule_linkings(book, index); finer_breaks(book, linking); takings(book)
unseen: parts_of(frame, base, mine, yours); looks_needed(book, base, mine, yours); trains(book, lots); may(book, one, other); may_all(book, lots); is_unseen_break(book, one, other, thing); unseen_break(book, one, other)
tables: is_scheme(thing); is_table(scheme, thing); broken_in(scheme, table); made_book(scheme, many); made_stand(table); table_of(scheme, stand); merged_tables(scheme, base, mine, yours)
anyrows: way_of(scheme, base, mine, yours, index); folded(scheme, base, mine, yours, kept); survives_always(scheme); is_breaking(scheme, thing); breaking_tables(scheme)
people: is_people(frame, thing); is_of_people(book, people, history); reach(book, people); book_of(book, stand, people); who_moves(book, people, reading); new_rights(book, stand, people, index)
mends: mends(book, stand); places_of_pieces(frame, pieces); blame(book, base, mine, yours, index); hands(frame, base, mine, yours); is_mend(book, stand, thing)
shares: rise(frame, reading, vector); crowd(book, index); shares(book, base, many); is_within(book, base, many, stand)
wholes: lattice(space, many); in_lattice(lattice, many, thing); whole_step(book); from_scale(book); whole_break(book, k)
house: House(book, stand) [R]
desk: Desk(text, start) [R]
"""
METHODS = {
    House: "book(); history(); heads(); stand(version); stands(); twin(); point(name, version); drop(name); edit(name, stand); merge(name, other); settle(name, other, stand); pick(name, begin, end); revert(name, begin, end); with_rule(rule); without_rule(index); undo(); survives(); open_rules(); broken_heads(); looks(name, other); mends(name); __eq__(other)",
    Desk: "house(); execute(line)",
}

SHEET = read_book("sheet usual\ncells a b c\ngroup a\ngroup b\nadded c\nrule 1 a 1 b <= 3\nrule 1 c <= 9\nrule -1 a <= 0")
FRAME = SHEET[0]
FIRST, MORE, OTHER = [read_vector(FRAME, text) for text in ("a 1, b 1", "a 2, b 1, c 3", "a 1, b 2, c 1/2")]
HISTORY = (("first", FIRST), ("edit", 0, MORE), ("edit", 0, OTHER), ("merge", 1, 2, 0))
SPACE = ((1, 0, -1), (0, 1, -1))
CHANGES = least_changes(SPACE, 3)
ROWS = (("<=", (2, 1), 3), ("=", (1, -1), 0))
THIRD = ((2, 3), (-1, 1), (1, 3))
# For each argument of the document's list, values that callers may give; the name of the function ahead where it has to be another one.
GIVEN = {
    "thing": ANY_VALUES[::7], "num": (6, 0, -7), "den": (-4, 3), "integer": (0, -5), "one": ((1, 2), (-3, 1)), "other": ((2, 3), (5, 1)), "text": ("a 1",), "share": ((1, 2), (0, 1)), "numbers": ((1, 0, -3),), "frame": (FRAME,), "cell": ("a", "c"), "lot": ((), (0, 1)),
    "vector": (MORE, THIRD), "places": ((), (0, 2)), "lots": ((), ((0, 1),)), "way": ("usual", "strict"), "names": (("x", "yy", "z"),), "reading": ((1, 1, 0), (0, 0, 0), (1, 0, -1)), "rule": (("<=", (1, 0, 0), 2), ("=", (0, 0, 0), 1)), "stand": (FIRST, MORE, vector_of((3, 2, 0))), "book": (SHEET,), "index": (0, 1),
    "times": (1, 7), "base": (FIRST,), "mine": (MORE, FIRST), "yours": (OTHER,), "onto": (MORE,), "begin": (FIRST,), "end": (OTHER,), "history": (HISTORY,), "version": (0, 3), "rows": (ROWS, ()), "goal": ((1, 0), (0, 0)), "multipliers": (((1, 2), (0, 1), (3, 1)),), "vectors": (((2, 4, 0), (1, 2, 1)), [(0, 0, 0)], []),
    "many": (3,), "space": (SPACE, ()), "changes": (CHANGES,), "family": ((0, 1),), "k": (1, 2), "bound": ((3, 1), (99, 2)), "linking": ((), ((0, 1),)), "scheme": (SHOP,), "table": (BASE, MINE), "kept": ((), (0,)), "people": ((), ((0,), (1, 2))), "pieces": ((), (0, 2)), "lattice": (((1, 1, -1), (0, 2, -1)),), "stands": ((MORE, FIRST),),
    "has.vector": (THIRD, vector_of((1, -1, 0))), "conformal.vector": (vector_of((2, -3, 1)),), "is_conformal.vector": (vector_of((2, -3, 1)),), "conformal.space": (SPACE,), "is_conformal.space": (SPACE,), "group_of.cell": ("a", "b", "c"), "taken.cell": ("c",), "added.one": (MORE,), "added.other": (OTHER,), "less.one": (MORE,), "less.other": (OTHER,),
    "change.one": (MORE,), "change.other": (OTHER,), "common_elders.one": (3, 0), "common_elders.other": (1,), "last_common.one": (3, 0), "last_common.other": (1, 2), "grafted.other": (HISTORY,), "shrunk.stand": (FIRST,), "crosses.one": CHANGES[:2], "crosses.other": CHANGES[1:], "do_agree.one": (MORE,), "do_agree.other": (OTHER, MORE),
    "common_part.one": (MORE,), "common_part.other": (MORE,), "spaces.joined.one": (SPACE, ()), "spaces.joined.other": (((1, 1, 1),),), "cut.one": (SPACE,), "cut.other": (((1, 0, 0), (0, 1, 0)),), "links.joined.linking": ((), ((0, 1),)), "is_finer.one": ((), ((0, 1),)), "is_finer.other": (((0, 1),),),
    "may.one": ((0,), (0, 1)), "may.other": ((1,), ()), "unseen_break.one": ((0,),), "unseen_break.other": ((1,), ()), "is_unseen_break.one": ((0,),), "is_unseen_break.other": ((1,),), "may_all.lots": ((), ((0,), (1,))), "trains.lots": ((), ((0,), (1,), (0,))), "table_of.stand": (vector_of((2, 0, 1)),), "made_book.many": (1, 3), "merged_tables.base": (BASE,),
    "merged_tables.mine": (MINE,), "merged_tables.yours": (YOURS,), "way_of.base": (BASE,), "way_of.mine": (MINE,), "way_of.yours": (YOURS,), "folded.base": (BASE,), "folded.mine": (MINE,), "folded.yours": (YOURS,), "book_of.stand": (vector_of((1, 1, 1)),), "new_rights.stand": (vector_of((1, 1, 1)),), "shares.many": (1, 3), "is_within.many": (2,),
    "read_fraction.text": ("-3/4", "2/4"), "read_book.text": ("sheet usual\ncells a\nadded a", "sheet"), "read_vector.text": ("a 1, c -1/2", "d"), "read_history.text": ("first a 1", "edit 0"), "House.stand": (FIRST,), "Desk.text": ("sheet usual\ncells a\nadded a",), "Desk.start": ("a 1",), "lattice.space": (SPACE, ()), "sign_of.one": ((0, 1), (-1, 2)),
    "is_solved.thing": (solved(ROWS, (1, 0)), ("none", ()), None), "is_greatest.thing": (greatest(SHEET, (1, 1, 0)), ()), "is_held_paper.thing": (held_paper(SHEET, FIRST), None), "is_greatest_held.thing": (greatest_held(SHEET, (1, 1, 0)), []), "is_conformal.thing": (conformal(SPACE, vector_of((2, -3, 1))), ()), "is_unseen_break.thing": (unseen_break(SHEET, (0,), (1,)), None),
    "is_history.thing": (HISTORY, []), "history_fault.thing": (HISTORY, HISTORY[1:], None), "is_mend.thing": (mends(SHEET, vector_of((3, 2, 0)))[0], None), "is_breaking.thing": ((BASE, MINE, YOURS), None), "is_table.thing": (BASE, None), "is_scheme.thing": (SHOP, None), "whole_break.k": (from_scale(SHEET)[1], 0), "outside.family": (families(FRAME, CHANGES)[0],),
}


def listed():
    """Return the list of (module, name, list of arguments, whether it takes any values) of the interface."""
    found = []
    for line in INTERFACE.strip().split("\n"):
        file, _, told = line.partition(": ")
        for one in told.split("; "):
            name, _, rest = one.partition("(")
            given = re.findall(r"\w+", rest.partition(")")[0])
            found.append((importlib.import_module("heldthrough." + file), name, given, one.endswith("[R]")))
    return found


def values_for(module, name, argument):
    """Return the values that are given for an argument."""
    file = module.__name__.split(".")[-1]
    for key in (f"{file}.{name}.{argument}", f"{name}.{argument}", argument):
        if key in GIVEN:
            return GIVEN[key]
    raise KeyError(argument)


def calls():
    """Return the list of (callable, arguments): each value once, the others being the first ones."""
    found = []
    for module, name, given, _ in listed():
        if module.__name__.endswith(".errors"):
            continue
        values = [values_for(module, name, argument) for argument in given]
        first = [one[0] for one in values]
        for at, one in enumerate(values):
            found += [(getattr(module, name), (*first[:at], value, *first[at + 1:])) for value in (one if at == 0 else one[1:])]
    return found


def answer(call, given):
    """Return what a call returns, or the kind and the fields of the error that it raises."""
    try:
        return call(*given)
    except HeldError as error:
        return (type(error), vars(error))


def is_plain(thing):
    """Tell whether a value is of the plain kinds alone, and no truth stands for a number."""
    if isinstance(thing, (tuple, list)):
        return all(is_plain(one) for one in thing)
    if isinstance(thing, dict):
        return all(is_plain(key) and is_plain(one) for key, one in thing.items())
    return thing is None or isinstance(thing, (int, str, House, Desk)) or isinstance(thing, type)


class Names(TimedCase):
    def test_all_are_there(self):
        """Each one is defined in the file under which it is listed, and has the arguments that are listed, by position."""
        for module, name, given, _ in listed():
            found = getattr(module, name)
            self.assertEqual(found.__module__, module.__name__, name)
            self.assertEqual((PACKAGE / (module.__name__.split(".")[-1] + ".py")).is_file(), True)
            if name == "HeldError":
                continue
            if isinstance(found, types.FunctionType):
                self.assertEqual(list(inspect.signature(found).parameters), given, name)
            elif given:
                self.assertIn("__init__", vars(found))
                self.assertEqual(list(inspect.signature(found.__init__).parameters)[1:], given, name)

    def test_methods(self):
        for kind, text in METHODS.items():
            for one in text.split("; "):
                name, _, rest = one.partition("(")
                self.assertIn(name, vars(kind))
                self.assertEqual(list(inspect.signature(vars(kind)[name]).parameters), ["self", *re.findall(r"\w+", rest)])

    def test_package(self):
        self.assertEqual((PACKAGE / "__init__.py").read_text(), "")
        self.assertEqual([one.name for one in PACKAGE.iterdir() if one.suffix != ".py" and one.name != "__pycache__"], [])


class AllCalls(TimedCase):
    def test_nothing_passed_in_is_changed(self):
        """Equal arguments give equal results, whatever was called before; what is returned is new, and of plain kinds."""
        told = calls()
        self.assertGreater(len(told), 250)
        first = []
        for call, given in told:
            before = copy.deepcopy(given)
            first.append(answer(call, given))
            self.assertEqual(repr(given), repr(before), call)
        for (call, given), found in list(zip(told, first))[::-1]:
            other = answer(call, copy.deepcopy(given))
            self.assertTrue(is_plain(other), (call, other))
            if not isinstance(found, Desk):
                self.assertEqual(other, found, (call, given))
                self.assertEqual(repr(other) == repr(found), not isinstance(found, House), (call, given))

    def test_truths(self):
        """What tells whether something is so returns a truth, never a number."""
        for call, given in calls():
            name = call.__name__
            if name.startswith(("is_", "has")) or name in ("keeps", "do_agree", "crosses", "follows", "holds", "survives", "may", "may_all", "survives_always"):
                self.assertIs(type(call(*given)), bool, name)
        truthful = sum(type(answer(call, given)) is bool for call, given in calls())
        self.assertGreater(truthful, 80)

    def test_wrong(self):
        """Callables of any values: the first argument that is not as described, ahead of any other error."""
        right = {"text": str, "start": str}
        for module, name, given, takes_any in listed():
            if not takes_any:
                continue
            values = [values_for(module, name, argument)[0] for argument in given]
            for at, argument in enumerate(given):
                for thing in ANY_VALUES:
                    if isinstance(thing, right.get(argument, ())) or (argument == "stand" and repr(thing) == repr(((0, 1),) * 3)) or (argument in ("frame", "book") and isinstance(thing, tuple) and "usual" in repr(thing)):
                        continue
                    for behind in (values[at + 1:], [None] * (len(given) - at - 1)):
                        with self.assertRaises(Wrong) as caught:
                            getattr(module, name)(*values[:at], thing, *behind)
                        self.assertEqual(caught.exception.place, at, (name, thing))

    def test_no_stand(self):
        """Each function that raises NoStand raises it with what no_stand returns."""
        raised = set()
        for module, name, given, _ in listed():
            if given[:1] != ["book"] or "thing" in given:
                continue
            for book in NONE:
                values = {"book": book, "stand": vector_of((0, 0)), "base": vector_of((0, 0)), "reading": (1, 0), "rule": ("<=", (1, 0), 3), "linking": (), "one": (0,), "other": (1,), "lots": ((0,),), "people": (), "bound": (3, 1)}
                try:
                    getattr(module, name)(*[values.get(argument, 1 if argument in ("k", "many") else 0) for argument in given])
                except HeldError as error:
                    if type(error).__name__ == "NoStand":
                        raised.add(name)
                        self.assertEqual(error.paper, importlib.import_module("heldthrough.limits").no_stand(book))
                except (TypeError, IndexError, ValueError, AttributeError):
                    # Not called with what it has to be called with here.
                    continue
        self.assertEqual(raised, {
            "greatest", "exact_rules", "equations", "inner", "directions", "drift", "drift_steps", "off_flat", "outsides", "is_safe", "unsafe_pair", "place", "held_paper", "greatest_held", "kept_rules", "holds", "survives", "farthest", "breaking", "road", "beyond", "is_least_linking",
            "linkings", "rule_linkings", "finer_breaks", "takings", "trains", "may", "may_all", "unseen_break", "reach", "book_of", "who_moves", "new_rights", "mends", "crowd", "shares", "is_within", "whole_step", "from_scale", "whole_break",
        })
