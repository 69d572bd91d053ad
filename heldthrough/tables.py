"""SCHEMES and TABLES: a head and any number of rows below it, and the BOOKS of so many rows."""

from heldthrough.books import keeps, value
from heldthrough.errors import Clash
from heldthrough.forms import LETTERS, SIGNS, WAYS, are_cells, are_fractions, are_parts, is_integer, is_tuple_of
from heldthrough.fractions import is_at_most, plus, whole
from heldthrough.merges import clashes, merged
from heldthrough.spaces import is_whole_vector

# For the word of each rule: of which parts, the head 1 and the row 2, it has readings, and how many bounds.
SORTS = {"head": ((1,), 1), "row": ((2,), 0), "sum": ((1, 2), 1)}


def is_scheme(thing):
    """Tell whether a value is a SCHEME."""
    if not is_tuple_of(thing, 4):
        return False
    way, head, row, rules = thing
    if way not in WAYS or not is_shape(head) or not is_shape(row) or row[0] == () or not isinstance(rules, tuple):
        return False
    return all([is_sort(thing, rule) for rule in rules])


def is_shape(thing):
    """Tell whether a value is a tuple (cells, groups, added), as those of a FRAME, perhaps without cells."""
    if not is_tuple_of(thing, 3):
        return False
    cells, groups, added = thing
    if cells != () and not are_cells(cells):
        return False
    return isinstance(cells, tuple) and isinstance(groups, tuple) and are_parts(cells, groups, added)


def is_sort(scheme, thing):
    """Tell whether a value is a rule of one of the three sorts, for the head and the row of a SCHEME."""
    if not isinstance(thing, tuple) or thing == () or not isinstance(thing[0], str) or thing[0] not in SORTS:
        return False
    parts, bounds = SORTS[thing[0]]
    if len(thing) != 2 + len(parts) + bounds or thing[1] not in SIGNS:
        return False
    readings = [is_whole_vector(len(scheme[at][0]), reading) for at, reading in zip(parts, thing[2:])]
    return all(readings) and all([is_integer(bound) for bound in thing[2 + len(parts):]])


def is_table(scheme, thing):
    """Tell whether a value is a TABLE of a SCHEME."""
    if not is_tuple_of(thing, 2) or not isinstance(thing[1], tuple):
        return False
    head, rows = thing
    return are_fractions(len(scheme[1][0]), head) and all([are_fractions(len(scheme[2][0]), row) for row in rows])


def broken_in(scheme, table):
    """Return the ascending tuple of the couples (index of a rule, row) that a TABLE doesn't keep."""
    found = []
    for index, rule in enumerate(scheme[3]):
        if rule[0] == "row":
            rows = [at for at, row in enumerate(table[1]) if not keeps((*rule[1:], 0), row)]
            found = found + [(index, at) for at in rows]
        elif not is_kept_by_all(rule, table):
            found.append((index, -1))
    return tuple(found)


def is_kept_by_all(rule, table):
    """Tell whether a TABLE keeps a rule of the head, or one of sums."""
    total = value(rule[2], table[0])
    if rule[0] == "sum":
        for row in table[1]:
            total = plus(total, value(rule[3], row))
    return total == whole(rule[-1]) if rule[1] == "=" else is_at_most(total, whole(rule[-1]))


def name_at(index):
    """Return the NAME of this index in the row of `a`, `b`, .. `z`, `aa`, `ab` and so on."""
    name, left = "", index + 1
    while left > 0:
        left, letter = divmod(left - 1, len(LETTERS))
        name = LETTERS[letter] + name
    return name


def made_book(scheme, many):
    """Return the BOOK of the sheet with so many rows."""
    way, head, row, rules = scheme
    cells, groups, added = (), (), ()
    for part in [head] + [row] * many:
        names = {cell: name_at(len(cells) + at) for at, cell in enumerate(part[0])}
        groups = groups + tuple([tuple([names[cell] for cell in group]) for group in part[1]])
        added = added + tuple([names[cell] for cell in part[2]])
        cells = cells + tuple([names[cell] for cell in part[0]])
    return ((cells, groups, added, way), tuple([made for rule in rules for made in made_rules(scheme, rule, many)]))


def made_rules(scheme, rule, many):
    """Return the list of the RULES that one rule makes for so many rows."""
    none, nothing = (0,) * len(scheme[1][0]), (0,) * len(scheme[2][0])
    if rule[0] == "head":
        return [(rule[1], rule[2] + nothing * many, rule[3])]
    if rule[0] == "sum":
        return [(rule[1], rule[2] + rule[3] * many, rule[4])]
    return [(rule[1], none + nothing * at + rule[2] + nothing * (many - 1 - at), 0) for at in range(many)]


def made_stand(table):
    """Return the STAND of a TABLE."""
    return table[0] + tuple([number for row in table[1] for number in row])


def table_of(scheme, stand):
    """Return the TABLE of a STAND of a made BOOK."""
    begin, width = len(scheme[1][0]), len(scheme[2][0])
    return (stand[:begin], tuple([stand[at:at + width] for at in range(begin, len(stand), width)]))


def head_frame(scheme):
    """Return the head as a FRAME, perhaps without cells."""
    return (*scheme[1], scheme[0])


def row_frame(scheme):
    """Return a row as a FRAME."""
    return (*scheme[2], scheme[0])


def merged_tables(scheme, base, mine, yours):
    """Return the TABLE of the MERGE of three TABLES."""
    frames = [head_frame(scheme)] + [row_frame(scheme)] * len(base[1])
    first, second, third = [[table[0], *table[1]] for table in (base, mine, yours)]
    groups, ahead = [], 0
    for frame, begin, one, other in zip(frames, first, second, third):
        groups = groups + [ahead + index for index in clashes(frame, begin, one, other)]
        ahead += len(frame[1])
    if groups:
        raise Clash(tuple(groups))
    head, *rows = [merged(frame, begin, one, other) for frame, begin, one, other in zip(frames, first, second, third)]
    return (head, tuple(rows))
