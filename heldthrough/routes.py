"""HISTORIES that come to any STAND that is INSIDE, as far as they are not too long."""

from heldthrough.chains import way_to
from heldthrough.directions import inner
from heldthrough.drift import room
from heldthrough.fractions import added, is_less, multiple, nought
from heldthrough.frames import added_places
from heldthrough.growth import grown_tree
from heldthrough.limits import sides_of
from heldthrough.programs import solved
from heldthrough.roving import Ground, shares_in
from heldthrough.spaces import cleared, kept_at, lies_in, rounded, space_of, sum_by, sum_of_products
from heldthrough.strides import MOST_DEEDS, free_places
from heldthrough.trees import Story, leaf, size_of

MOST_EASED = 3
FINE_BITS = 80


def route(book, stand):
    """Return a HISTORY that comes to a STAND that is INSIDE."""
    ground, goal, ways = Ground(book), stand, []
    for _ in range(MOST_EASED):
        moves = ground.moves(goal)
        way = way_to(ground, goal, moves, None)
        if way is not None:
            return short_enough(ground, stand, leaf(way.begin), [way] + ways)
        nearer = eased(ground, goal, moves)
        way = None if nearer is None else way_to(ground, goal, moves, nearer)
        if way is None:
            break
        ways, goal = [way] + ways, nearer
    return short_enough(ground, stand, grown_tree(ground, goal), ways)


def short_enough(ground, stand, start, ways):
    """Return the HISTORY of a tree, of Ways behind it that lead to a STAND, and of the lift that these leave.

    If it is too long, the STAND is looked for by a tree alone.
    """
    begin, lift = inner(ground.source), nought(ground.frame)
    for way in ways:
        lift = added(lift, way.lift)
    rise, doubled = lifting(ground, begin, lift)
    if size_of(start) + sum([way.size() for way in ways]) + doubled + 3 > MOST_DEEDS:
        start, ways, doubled = grown_tree(ground, stand), [], 0
    links = [link for way in ways for link in way.links()]
    story = Story()
    if doubled == 0:
        story.put_chain(None, start, links)
        return story.history()
    first = story.put_stand(None, begin)
    second = story.put_stand(first, added(begin, rise))
    here = story.put_chain(second, start, links)
    high = second
    for _ in range(doubled):
        high = story.put(("merge", high, high, first))
    story.put(("merge", here, high, second))
    return story.history()


def lifting(ground, begin, lift):
    """Return a tuple (rise, doubled): a VECTOR that leads from an INNER STAND to a GOOD one; how often it is doubled.

    Each time what stands there is merged with itself, over the INNER STAND: what the added cells
    have more than that is doubled. In the end this is the lift, and the rise, more.
    """
    if lift == nought(ground.frame):
        return (lift, 0)
    places = added_places(ground.frame)
    rows = ground.within_lot(ground.flat, ()) if ground.frame[3] == "strict" else ground.flat
    rise = sum_by(shares_in([kept_at(row, places) for row in rows], lift), rows, nought(ground.frame))
    most, doubled = room(ground.source, begin, [rise]), 1
    while is_less(most, (1, (1 << doubled) - 1)):
        doubled += 1
    return (multiple((1, (1 << doubled) - 1), rise), doubled)


def eased(ground, goal, moves):
    """Return a STAND, nearer to GOOD ones, from which Moves can lead to a STAND; None if there are no Moves."""
    space, lots = (), []
    for move in moves:
        wider = space_of(space + move.space, ground.many)
        if len(wider) > len(space):
            space, lots = wider, lots + [move.lot]
    if space == ():
        return None
    frees = [free_places(ground.frame, lot) for lot in lots]
    many = sum([len(free) for free in frees])
    *numbers, den = cleared((*goal, (1, 1)))
    rows = over_rows(ground, space, numbers, den, many)
    ahead = 0
    for free in frees:
        rows = rows + lot_rows(ground, space, numbers, den, (ahead, free, many - ahead - len(free)))
        ahead += len(free)
    last = (0,) * (len(space) + many) + (-1,)
    found = solved((*rows, ("<=", last, 0)), last)
    # A little of the goal lets all LOTS fit that it fits.
    shares = multiple((31, 32 * den), found[2][:len(space)])
    return sum_by(shortened(shares, space) if lies_in(space, ground.flat) else shares, space, goal)


def shortened(shares, space):
    """Return the list of shares of the members of a SPACE that are very near to some others, but shorter."""
    sizes = [max([abs(number) for number in row]) for row in space]
    # One part of any member is little, as the greatest change by one of them goes.
    parts = [max(sizes) * den // (size * abs(num)) for size, (num, den) in zip(sizes, shares) if num != 0]
    return rounded(shares, (min(parts, default=0) + 1) << FINE_BITS)


def over_rows(ground, space, numbers, den, many):
    """Return the list of rows by which a STAND goes beyond no bound by more than the last unknown.

    The first unknowns are shares of the members of a SPACE that are added to the STAND, multiplied by den;
    behind them so many cells of other STANDS are unknown.
    """
    rows = []
    for rule in ground.source[1]:
        for reading, bound in sides_of(rule):
            along = tuple([sum_of_products(reading, row) for row in space])
            rows.append(("<=", along + (0,) * many + (-1,), bound * den - sum_of_products(reading, numbers)))
    return rows


def lot_rows(ground, space, numbers, den, which):
    """Return the list of rows by which another STAND is GOOD that is as the STAND in all cells but the free ones.

    Which it is tells a tuple: how many unknown cells are ahead, the free places, how many are behind.
    """
    ahead, free, behind = which
    rows = []
    for sign, reading, bound in ground.source[1]:
        own = [0 if place in free else number for place, number in enumerate(reading)]
        along = tuple([sum_of_products(own, row) for row in space]) + (0,) * ahead
        left = bound * den - sum_of_products(own, numbers)
        rows.append((sign, along + tuple([reading[place] for place in free]) + (0,) * (behind + 1), left))
    return rows
