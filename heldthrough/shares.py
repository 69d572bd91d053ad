"""Shares of slack: how far branches may go so that what they come to keeps the limits."""

from heldthrough.books import value
from heldthrough.crossing import lot_of
from heldthrough.fractions import is_at_most, minus, over, plus, sign_of, whole
from heldthrough.frames import part
from heldthrough.limits import check_stand
from heldthrough.mends import pieces_in, places_of_piece
from heldthrough.merges import change
from heldthrough.safe import changes_of
from heldthrough.spaces import sum_of_products


def rise(frame, reading, vector):
    """Return the sum of the VALUES above 0 of a READING at the parts of a VECTOR in each PIECE."""
    total = whole(0)
    for piece in range(pieces_in(frame)):
        one = value(reading, part(frame, vector, places_of_piece(frame, piece)))
        if sign_of(one) > 0:
            total = plus(total, one)
    return total


def crowd(book, index):
    """Return the greatest number of LEAST CHANGES, no two of which CROSS, that change the VALUE of a RULE, or None."""
    return crowd_of(book[0], changes_of(book), book[1][index][1])


def crowd_of(frame, changes, reading):
    """Return what crowd does, of all LEAST CHANGES and the READING of the RULE."""
    lots = sorted(set([lot_of(frame, one) for one in changes if sum_of_products(reading, one) != 0]))
    if () in lots:
        return None
    # For each tuple of groups that are taken, the greatest number of LOTS by which they are.
    most = {(): 0}
    for lot in lots:
        for taken in list(most):
            if not any([index in taken for index in lot]):
                both = tuple(sorted(taken + lot))
                most[both] = max(most.get(both, 0), most[taken] + 1)
    return max(list(most.values()))


def shares(book, base, many):
    """Return a tuple with an item for each RULE: what each of many branches may take of its slack, or None."""
    check_stand(book)
    changes = changes_of(book)
    return tuple([share_of(book[0], changes, rule, base, many) for rule in book[1]])


def share_of(frame, changes, rule, base, many):
    """Return what each of many branches may take of the slack of a RULE, None if there is nothing to share out."""
    sign, reading, bound = rule
    most = crowd_of(frame, changes, reading)
    if sign == "=" or most == 0:
        return None
    return over(minus(whole(bound), value(reading, base)), whole(many if most is None else min(many, most)))


def is_within(book, base, many, stand):
    """Tell whether a STAND is within its share, of many branches over a base."""
    vector = change(base, stand)
    for rule, share in zip(book[1], shares(book, base, many)):
        if share is not None and not is_at_most(rise(book[0], rule[1], vector), share):
            return False
    return True
