"""Values for the tests: some of each kind that a call of any value has to take."""

from heldthrough.errors import Clash, HeldError, NoText


def nest(depth):
    """Return a tuple that is so many tuples deep."""
    thing = ()
    for _ in range(depth):
        thing = (thing,)
    return thing


FRAME = (("a", "b", "c"), (("a", "c"), ("b",)), (), "usual")

ANY_VALUES = [
    None, True, False, 0, 1, -1, 2, 10 ** 40 - 1, -(10 ** 40) + 1,
    "", " ", "a", "usual", "=", "<=", "first", "none", "at", "0", "a 1", "sheet usual\ncells a\ngroup a", "~" * 4000,
    (), [], {}, (0,), [0], (True,), (0, 1), [0, 1], (0, True), (1, 2, 3), (0, 1, 2, 3), ((),), ([],), ({},), (None,) * 4,
    ((0, 1),), ((0, 1),) * 3, [(0, 1)] * 3, ([0, 1],) * 3, ((0, True),) * 3, (0, 0, 0), (0, 0, True), [0, 0, 0],
    ("=", (0, 0, 0), 0), ["=", (0, 0, 0), 0], ("=", [0, 0, 0], 0), ("=", (0, 0, 0), None), ("=", (0, 0, 0), False),
    ("a",), ("a", "b"), ("a", ("b",)), ({"a": 1}, {"b": 2}), {"a": ("b",)}, {1: [2]}, {True: None},
    FRAME, list(FRAME), (FRAME, ()), [FRAME, ()], (FRAME, []), (list(FRAME), ()), (FRAME, (None,)), (FRAME, None),
    (("first", ((0, 1),) * 3),), [("first", ((0, 1),) * 3)], (("first", [(0, 1)] * 3),), (("first",),), (["first"],), ((),),
    (([],),), (((),),), (({},),), ((None,),), ((True,),), (("edit", 0, ((0, 1),) * 3),),
    ("none", ()), ("at", (0, 1), (), ()), ("endless", (), ()), ("none",), ("at",), ("endless",), ("held", ()), ("out", ()), ("held",), ("out", None),
    nest(20), [nest(19)], {"a": nest(18)}, (None,) * 3000, ("a",) * 3000, [[]] * 1500,
    HeldError(), Clash((0,)), NoText([1]), (Clash(()),), (HeldError(), HeldError()), (FRAME, (HeldError(),)),
]


def others(thing):
    """Return the list of values that are a value with one item otherwise, at any depth."""
    found = [None, True, False, 0, 1, "at", (), [], {}]
    if isinstance(thing, int):
        found += [thing + 1, thing - 1, -thing, 2 * thing, bool(thing), str(thing), (thing,), (thing, 1), [thing]]
    elif isinstance(thing, str):
        found += ["none", "endless", "held", "out", "", thing + " ", thing.upper()]
    else:
        found += [list(thing), thing[:-1], thing[1:], thing[::-1], thing + thing[-1:], thing + ((0, 1),), thing + (0,), (thing,), (0, 1), (-1, 1), (1, 2), (2, 4)]
        if len(thing) == 2 and isinstance(thing[0], int):
            found += [(2 * thing[0], 2 * thing[1]), (-thing[0], -thing[1]), (-thing[0], thing[1])]
        for index, item in enumerate(thing):
            found += [thing[:index] + (other,) + thing[index + 1:] for other in others(item)]
    return found
