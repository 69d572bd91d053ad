"""What all MERGES of three GOOD STANDS have in common, by a program for each way in which the groups can be touched."""

import itertools

from heldthrough.programs import solved
from tests.linear import places_by_words
from tests.makers import told


def merge_rows(frame, kinds):
    """Return rows for base, mine and yours, and for each cell of the MERGE the unknowns that it is the sum of, with their shares.

    Of each group kinds tells whether it is alike in mine and yours, touched by mine alone, by yours alone, or not at all.
    """
    many = len(frame[0])
    equal, shares = [], [[(many + place, 1), (2 * many + place, 1), (place, -1)] for place in range(many)]
    for kind, places in zip(kinds, places_by_words(frame)):
        for place in places:
            base, mine, yours = place, many + place, 2 * many + place
            for one, other in {"alike": [(mine, yours)], "mine": [(base, yours)], "yours": [(base, mine)], "not": [(base, mine), (base, yours)]}[kind]:
                row = [0] * (3 * many)
                row[one], row[other] = 1, -1
                equal.append(("=", tuple(row), 0))
            shares[place] = [(yours if kind == "yours" else mine, 1)]
    return equal, shares


def all_kinds(frame, one=None, other=None):
    """Return all ways in which the groups can be touched if mine KEEPS WITHIN one LOT, yours within another one; None is all groups."""
    many, told_ = len(frame[1]), []
    for index in range(many):
        mine, yours = one is None or index in one, other is None or index in other
        found = [kind for kind, is_so in (("alike", mine and yours and frame[3] == "usual"), ("mine", mine), ("yours", yours)) if is_so]
        told_.append(found or ["not"])
    return list(itertools.product(*told_))


def greatest_merge(book, reading, kinds_told=None):
    """Return the greatest VALUE of a READING at a MERGE of three GOOD STANDS, None if it is endless."""
    frame, rules = book
    many, best = len(frame[0]), None
    for kinds in all_kinds(frame) if kinds_told is None else kinds_told:
        rows, shares = merge_rows(frame, kinds)
        for start in (0, many, 2 * many):
            rows += [(sign, (0,) * start + told_ + (0,) * (2 * many - start), bound) for sign, told_, bound in rules]
        goal = [0] * (3 * many)
        for number, parts in zip(reading, shares):
            for unknown, share in parts:
                goal[unknown] += number * share
        found = solved(tuple(rows), tuple(goal))
        if found[0] == "endless":
            return None
        best = told(found[1]) if best is None else max(best, told(found[1]))
    return best


def do_all_merges_keep(book, kinds_told=None):
    """Tell whether each MERGE of three GOOD STANDS keeps all RULES."""
    for sign, reading, bound in book[1]:
        most = greatest_merge(book, reading, kinds_told)
        if most is None or most > bound:
            return False
        if sign == "=":
            least = greatest_merge(book, tuple(-number for number in reading), kinds_told)
            if least is None or -least < bound:
                return False
    return True
