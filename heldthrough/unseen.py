"""Which branches may be merged unseen, by the groups that they touch, and what one has to look at otherwise."""

from heldthrough.books import is_good, value
from heldthrough.breaks import Bounds, Breaks, history_of
from heldthrough.crossing import greatest_lots, is_part
from heldthrough.errors import Clash
from heldthrough.fractions import less, sign_of
from heldthrough.frames import part, places_of, touched
from heldthrough.histories import is_history, stands_of
from heldthrough.merges import change, clashes


def parts_of(frame, base, mine, yours):
    """Return the tuple of what both branches change alike, and of the rest of the one's change, and of the other's."""
    groups = clashes(frame, base, mine, yours)
    if groups != ():
        raise Clash(groups)
    by_mine, by_yours = change(base, mine), change(base, yours)
    lot = touched(frame, by_yours)
    both = tuple([index for index in touched(frame, by_mine) if index in lot])
    common = part(frame, by_mine, places_of(frame, both))
    return (common, less(by_mine, common), less(by_yours, common))


def looks_needed(book, base, mine, yours):
    """Return the ascending tuple of the indexes of the RULES that the MERGE of GOOD STANDS can break."""
    _, own, other = parts_of(book[0], base, mine, yours)
    found = []
    for index, (sign, reading, _) in enumerate(book[1]):
        by_mine, by_yours = [sign_of(value(reading, one)) for one in (own, other)]
        if (by_mine == 1 and by_yours == 1) or (sign == "=" and by_yours != 0):
            found.append(index)
    return tuple(found)


def may(book, one, other):
    """Tell whether no merge of branches that KEEP WITHIN two LOTS breaks a BOOK."""
    return unseen_break(book, one, other) is None


def unseen_break(book, one, other):
    """Return a HISTORY of four DEEDS whose branches KEEP WITHIN two LOTS, and whose merge is not GOOD; or None."""
    found = Breaks(book[0], Bounds(book)).between(one, other)
    return None if found is None else history_of(book, found)


def is_unseen_break(book, one, other, thing):
    """Tell whether a value is what unseen_break may return, if it isn't None."""
    if not is_history(book, thing) or len(thing) != 4 or thing[3] != ("merge", 1, 2, 0):
        return False
    if [deed[:2] for deed in thing[1:3]] != [("edit", 0), ("edit", 0)]:
        return False
    stands = stands_of(book, thing)
    lots = [touched(book[0], change(stands[0], stand)) for stand in stands[1:3]]
    return is_part(lots[0], one) and is_part(lots[1], other) and not is_good(book, stands[3])


def may_all(book, lots):
    """Tell whether no merges, one behind the other, of branches that KEEP WITHIN LOTS break a BOOK."""
    near = near_lots(book, lots)
    return all([len(found) == len(lots) for found in near.values()])


def trains(book, lots):
    """Return the ascending tuple of the greatest ascending tuples of indexes of LOTS that may be merged unseen."""
    return greatest_lots(near_lots(book, lots))


def near_lots(book, lots):
    """Return the dict from the index of each LOT to those with which it may be merged unseen, itself among them."""
    breaks = Breaks(book[0], Bounds(book))
    known = {}
    near = {index: {index: True} for index in range(len(lots))}
    for index, lot in enumerate(lots):
        for before, other in enumerate(lots[:index]):
            if (other, lot) not in known:
                known[(other, lot)] = known[(lot, other)] = breaks.between(other, lot) is None
            if known[(other, lot)]:
                near[index][before] = near[before][index] = True
    return near
