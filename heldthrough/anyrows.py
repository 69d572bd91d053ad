"""What holds for all numbers of rows of a SCHEME."""

from heldthrough.breaks import Bounds, Breaks, history_that_breaks
from heldthrough.errors import Clash, TooMany
from heldthrough.forms import is_tuple_of
from heldthrough.fractions import added
from heldthrough.frames import touched
from heldthrough.limits import no_stand
from heldthrough.merges import change
from heldthrough.tables import broken_in, is_table, made_book, merged_tables, row_frame, table_of

# For so many groups of a row, one row of each WAY, and one more.
ENOUGH_ROWS = (2, 5)
MOST_GROUPS = 2


def way_of(scheme, base, mine, yours, index):
    """Return the WAY of a row: a word for each of its groups."""
    begin = base[1][index]
    lots = [touched(row_frame(scheme), change(begin, table[1][index])) for table in (mine, yours)]
    words = {(True, True): "alike", (True, False): "mine", (False, True): "yours", (False, False): "not"}
    return tuple([words[(group in lots[0], group in lots[1])] for group in range(len(scheme[2][1]))])


def folded(scheme, base, mine, yours, kept):
    """Return three TABLES with the rows kept, and one row for each WAY of others, in which these are added up."""
    ways = {}
    for index in range(len(base[1])):
        if index not in kept:
            ways.setdefault(way_of(scheme, base, mine, yours, index), []).append(index)
    return tuple([folded_table(table, kept, [ways[way] for way in sorted(ways)]) for table in (base, mine, yours)])


def folded_table(table, kept, lots):
    """Return a TABLE with the rows kept, and one row for each list of indexes, in which the rows are added up."""
    rows = [table[1][index] for index in kept]
    for lot in lots:
        total = table[1][lot[0]]
        for index in lot[1:]:
            total = added(total, table[1][index])
        rows.append(total)
    return (table[0], tuple(rows))


def survives_always(scheme):
    """Tell whether for all numbers of rows each MERGE of three GOOD TABLES is GOOD."""
    return breaking_tables(scheme) is None


def breaking_tables(scheme):
    """Return three GOOD TABLES whose MERGE is not GOOD, None if there are none."""
    book = made_book(scheme, enough_rows(scheme))
    if no_stand(book) is not None:
        return None
    history = history_that_breaks(book, Breaks(book[0], Bounds(book)))
    return None if history is None else tuple([table_of(scheme, deed[-1]) for deed in history[:3]])


def enough_rows(scheme):
    """Return how many rows suffice to look at; raise TooMany if they are too many."""
    groups, has_sums = len(scheme[2][1]), any([rule[0] == "sum" for rule in scheme[3]])
    if groups > MOST_GROUPS:
        raise TooMany(MOST_GROUPS)
    if groups == len(ENOUGH_ROWS) and has_sums:
        raise TooMany(1)
    # Without sums no row has to do with another one, or with the head.
    return ENOUGH_ROWS[groups] if has_sums else 1


def is_breaking(scheme, thing):
    """Tell whether a value is a tuple of three GOOD TABLES whose MERGE is not GOOD."""
    if not is_tuple_of(thing, 3) or not all([is_table(scheme, table) for table in thing]):
        return False
    if any([len(table[1]) != len(thing[0][1]) or broken_in(scheme, table) != () for table in thing]):
        return False
    try:
        return broken_in(scheme, merged_tables(scheme, *thing)) != ()
    except Clash:
        return False
