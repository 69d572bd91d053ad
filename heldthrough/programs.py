"""The greatest value of a goal over rows, by exact pivots, and the judge of what is told of it.

A row's slack is its bound less the sum of its numbers times the unknowns. Slacks are
numbered as their rows, unknowns behind them. At each time some of them are inner, each
one told by a line from the outer ones.
"""

from math import gcd

from heldthrough.books import keeps, value
from heldthrough.forms import are_fractions, is_fraction, is_tuple_of
from heldthrough.fractions import added, fraction, multiple, plus, sign_of, times, vector_of, whole

GREAT = 1000000000000
SHORT = 1000000


class Board:
    """A line of integers for each inner slack or unknown, and behind these one for the goal.

    A line has a number for each outer one, then a bound, then a scale above 0: the scale
    times the inner one, plus the sum of the numbers times the outer ones, is the bound.
    """

    def __init__(self, rows, goal):
        self.signs = [sign for sign, numbers, bound in rows]
        self.inner = list(range(len(rows)))
        self.outer = list(range(len(rows), len(rows) + len(goal)))
        self.lines = [[*numbers, bound, 1] for sign, numbers, bound in rows]
        self.lines.append([-number for number in goal] + [0, 1])

    def is_unknown(self, one):
        """Tell whether a number is that of an unknown."""
        return one >= len(self.signs)

    def is_limit(self, one):
        """Tell whether a number is that of a slack that has to be at least 0."""
        return not self.is_unknown(one) and self.signs[one] == "<="

    def exchange(self, at, column):
        """Make the inner one of a line outer, and the outer one of a column inner."""
        turned = turned_line(self.lines[at], column)
        fresh = [freed_line(line, turned, column) for line in self.lines]
        fresh[at] = turned
        self.lines = fresh
        self.inner[at], self.outer[column] = self.outer[column], self.inner[at]


def turned_line(line, column):
    """Return the line of an inner one as the one of the outer one of a column."""
    turned = list(line) if line[column] > 0 else [-number for number in line]
    turned[column], turned[-1] = turned[-1], turned[column]
    return turned


def freed_line(line, turned, column):
    """Return a line from which a column's outer one is taken, as it has become inner by this turned line."""
    share = line[column]
    if share == 0:
        return line
    common = gcd(share, turned[-1])
    up, down = turned[-1] // common, share // common
    fresh = [number * up - other * down for number, other in zip(line, turned)]
    fresh[column] = -turned[column] * down
    fresh[-1] = line[-1] * up
    return lowered(fresh)


def lowered(line):
    """Return a line divided by the greatest divisor of its numbers, as long lines of great numbers are slow."""
    common = 0
    for number in line:
        common = gcd(common, number)
        if common == 1:
            return line
    return [number // common for number in line]


def solved(rows, goal):
    """Return a POINT at which a goal is greatest, or that it is endless, or that there is no POINT, with the proof."""
    taken = likely_rows(rows, goal)
    while True:
        found = pivoted([rows[index] for index in taken], goal)
        left = [index for index in range(len(rows)) if index not in taken and not is_kept(rows[index], found)]
        if left == []:
            return with_rows(found, taken, len(rows))
        taken = sorted(taken + left)


def is_kept(row, found):
    """Tell whether what was found over other rows is right over one row more as well."""
    if found[0] == "at":
        return keeps(row, found[2])
    return found[0] == "none" or (keeps(row, found[1]) and keeps(level_row(row), found[2]))


def level_row(row):
    """Return the row that each WAY of a row keeps."""
    return (row[0], row[1], 0)


def with_rows(found, taken, many):
    """Return what was found over the taken ones of so many rows, with MULTIPLIERS for all of them."""
    if found[0] == "endless":
        return found
    shares = {index: share for index, share in zip(taken, found[-1])}
    return found[:-1] + (tuple([shares[index] if index in shares else whole(0) for index in range(many)]),)


def likely_rows(rows, goal):
    """Return the ascending list of the indexes of the rows that are likely to matter.

    Pivots of great numbers are slow. So for these short ones are pivoted first, which are
    nearly in the same proportions; each row that doesn't matter for these is left out, till it is missed.
    """
    numbers = [number for row in rows for number in row[1]] + [row[2] for row in rows] + list(goal)
    if all([abs(number) <= GREAT for number in numbers]):
        return list(range(len(rows)))
    board = Board(short_rows(rows), short(goal))
    barred = settle(board)
    if barred is None:
        endless_column(board)
    matter = board.outer if barred is None else board.outer + [board.inner[barred]]
    return [index for index, row in enumerate(rows) if row[0] == "=" or index in matter]


def short_rows(rows):
    """Return the list of rows of short numbers, nearly in the same proportions, all bounds being multiplied alike."""
    tops = [max([abs(number) for number in row[1]] + [1]) for row in rows]
    bounds = short([shortened(row[2], top) for row, top in zip(rows, tops)])
    return [(row[0], short(row[1]), bound) for row, bound in zip(rows, bounds)]


def short(numbers):
    """Return a list or tuple of integers as a list of short ones, nearly in the same proportions."""
    top = max([abs(number) for number in numbers] + [1])
    return [shortened(number, top) for number in numbers]


def shortened(number, top):
    """Return an integer multiplied and divided so that top becomes short; opposite ones stay opposite."""
    size = abs(number) * SHORT // top
    return size if number > 0 else -size


def pivoted(rows, goal):
    """Return what solved tells, by pivots of all rows."""
    board = Board(rows, goal)
    barred = settle(board)
    if barred is not None:
        return ("none", proof_of(board, barred))
    column = endless_column(board)
    if column is not None:
        return ("endless", point_of(board), way_of(board, column))
    last = board.lines[-1]
    return ("at", fraction(last[-2], last[-1]), point_of(board), shares_of(board, last, last[-1]))


def settle(board):
    """Go to a POINT; return a line that bars it, None if there is none."""
    barred = line_of_no_way(board)
    return line_too_low(board) if barred is None else barred


def line_of_no_way(board):
    """Make slacks of sign "=" outer, and unknowns inner, as far as can be; return a line that bars it, or None."""
    for at in range(len(board.signs)):
        if board.signs[at] == "=":
            column = first_column(board, at)
            if column is not None:
                board.exchange(at, column)
            elif board.lines[at][-2] != 0:
                return at
    for column, one in enumerate(list(board.outer)):
        if board.is_unknown(one):
            at = line_to_leave(board, column)
            if at is not None:
                board.exchange(at, column)
    return None


def line_to_leave(board, column):
    """Return a line whose slack can be made outer for the unknown of a column, None if there is none."""
    way = 1 if board.lines[-1][column] < 0 else -1
    # Where this can be, no slack falls below 0, and the goal doesn't fall.
    for turn in (way, -way):
        at = first_limit(board, column, turn)
        if at is not None:
            return at
    limits = [at for at in limit_lines(board) if board.lines[at][column] != 0]
    return limits[0] if limits else None


def first_column(board, at):
    """Return the first column of an unknown at which a line has not 0, None if there is none."""
    for column, one in enumerate(board.outer):
        if board.is_unknown(one) and board.lines[at][column] != 0:
            return column
    return None


def limit_lines(board):
    """Return the list of the lines of inner slacks that have to be at least 0."""
    return [at for at, one in enumerate(board.inner) if board.is_limit(one)]


def limit_columns(board):
    """Return the list of the columns of outer slacks that have to be at least 0."""
    return [column for column, one in enumerate(board.outer) if board.is_limit(one)]


def least_of(numbers, places):
    """Return that of some places at which the least number stands, None if there is no place."""
    return min(places, key=lambda place: numbers[place], default=None)


def rising_column(board, line):
    """Return the column of the least slack by whose growth that of which a line tells grows, None if there is none."""
    rising = [column for column in limit_columns(board) if line[column] < 0]
    return least_of(board.outer, rising)


def line_too_low(board):
    """Lead one slack below 0 after the other up to 0; return the line of one for which this can't be, or None."""
    while True:
        low = [at for at in limit_lines(board) if board.lines[at][-2] < 0]
        at = least_of(board.inner, low)
        if at is None:
            return None
        column = rising_column(board, board.lines[at])
        if column is None:
            return at
        # Slacks that are not below 0 stay so: the low ones get fewer, and the least one is the same till it is up.
        first = first_limit(board, column, 1)
        if first is None or is_ahead(board, column, at, first):
            first = at
        board.exchange(first, column)


def endless_column(board):
    """Go to where the goal is greatest; return a column along which it is endless, None if it isn't."""
    for column, one in enumerate(board.outer):
        if board.is_unknown(one) and board.lines[-1][column] != 0:
            return column
    while True:
        column = rising_column(board, board.lines[-1])
        if column is None:
            return None
        at = first_limit(board, column, 1)
        if at is None:
            return column
        board.exchange(at, column)


def first_limit(board, column, way):
    """Return the line whose slack, not below 0, is 0 first if what is outer at a column goes one way, or None.

    The way is 1 if it grows, -1 if it falls.
    """
    best = None
    for at in limit_lines(board):
        line = board.lines[at]
        if line[column] * way > 0 and line[-2] >= 0 and (best is None or is_ahead(board, column, at, best)):
            best = at
    return best


def is_ahead(board, column, one, other):
    """Tell whether the one line's slack is 0 ahead of the other's; of those at once the least is ahead."""
    mine, yours = board.lines[one], board.lines[other]
    # A slack that comes up to 0 has its bound below 0; one that is 0 first by a fall has its number below 0.
    early, late = abs(mine[-2] * yours[column]), abs(yours[-2] * mine[column])
    return early < late or (early == late and board.inner[one] < board.inner[other])


def proof_of(board, at):
    """Return the MULTIPLIERS that a line gives whose slack can't be what it has to be."""
    line = board.lines[at]
    # Only a slack of sign "=" can be too great; then all that its line has is of this sign.
    turn = -1 if line[-2] > 0 else 1
    shares = list(shares_of(board, line, turn))
    shares[board.inner[at]] = whole(turn * line[-1])
    return tuple(shares)


def shares_of(board, line, scale):
    """Return a tuple of a FRACTION for each row: the number in a line at its slack, divided by scale."""
    column_of = {one: column for column, one in enumerate(board.outer)}
    numbers = [line[column_of[row]] if row in column_of else 0 for row in range(len(board.signs))]
    return tuple([fraction(number, scale) for number in numbers])


def inner_unknowns(board):
    """Return the list of tuples of each unknown that is inner, counted from 0, and its line."""
    many = len(board.signs)
    return [(one - many, board.lines[at]) for at, one in enumerate(board.inner) if board.is_unknown(one)]


def point_of(board):
    """Return the POINT at which all that is outer is 0."""
    point = [whole(0)] * len(board.outer)
    for unknown, line in inner_unknowns(board):
        point[unknown] = fraction(line[-2], line[-1])
    return tuple(point)


def way_of(board, column):
    """Return the WAY on which the outer one of a column alone grows or falls, so that the goal grows."""
    step = 1 if board.lines[-1][column] < 0 else -1
    way = [whole(0)] * len(board.outer)
    one = board.outer[column]
    if board.is_unknown(one):
        way[one - len(board.signs)] = whole(step)
    for unknown, line in inner_unknowns(board):
        way[unknown] = fraction(-step * line[column], line[-1])
    return tuple(way)


def is_solved(rows, goal, thing):
    """Tell whether a value is what solved may return."""
    if not isinstance(thing, tuple) or thing == ():
        return False
    if thing[0] == "none":
        return is_tuple_of(thing, 2) and is_proof(rows, goal, thing[1])
    if thing[0] == "endless":
        return is_tuple_of(thing, 3) and is_endless(rows, goal, thing[1], thing[2])
    return thing[0] == "at" and is_tuple_of(thing, 4) and is_at(rows, goal, thing)


def is_proof(rows, goal, thing):
    """Tell whether a value is MULTIPLIERS that GIVE noughts alone, and a sum below 0."""
    if not are_multipliers(rows, thing):
        return False
    sums, total = given(rows, len(goal), thing)
    return all([sign_of(one) == 0 for one in sums]) and sign_of(total) < 0


def is_endless(rows, goal, point, way):
    """Tell whether two values are a POINT, and a WAY at which the goal has a value above 0."""
    if not is_point(rows, goal, point):
        return False
    return is_point([level_row(row) for row in rows], goal, way) and sign_of(value(goal, way)) > 0


def is_at(rows, goal, thing):
    """Tell whether a tuple has a POINT, and MULTIPLIERS that GIVE the goal and its value there."""
    greatest, point, multipliers = thing[1:]
    if not is_fraction(greatest) or not is_point(rows, goal, point) or not are_multipliers(rows, multipliers):
        return False
    return value(goal, point) == greatest and given(rows, len(goal), multipliers) == (vector_of(goal), greatest)


def is_point(rows, goal, thing):
    """Tell whether a value is a POINT of the rows, which have as many unknowns as the goal."""
    return are_fractions(len(goal), thing) and all([keeps(row, thing) for row in rows])


def are_multipliers(rows, thing):
    """Tell whether a value is MULTIPLIERS of the rows."""
    if not are_fractions(len(rows), thing):
        return False
    return all([row[0] == "=" or sign_of(share) >= 0 for row, share in zip(rows, thing)])


def given(rows, many, multipliers):
    """Return the tuple of the sums, one for each of many unknowns, and the sum that MULTIPLIERS of the rows GIVE."""
    sums, total = (whole(0),) * many, whole(0)
    for row, share in zip(rows, multipliers):
        sums = added(sums, multiple(share, vector_of(row[1])))
        total = plus(total, times(share, whole(row[2])))
    return (sums, total)
