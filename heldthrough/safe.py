"""Which readings are SAFE for a BOOK, told by its least OUTSIDES."""

from heldthrough.books import value
from heldthrough.crossing import families, outside, uncrossed
from heldthrough.drift import drift
from heldthrough.errors import TooMany
from heldthrough.forms import is_integer
from heldthrough.fractions import sign_of, vector_of
from heldthrough.leastchanges import least_changes
from heldthrough.spaces import cleared, lies_in

MOST_OUTSIDES = 40


def changes_of(book):
    """Return the LEAST CHANGES of a BOOK."""
    return least_changes(drift(book), len(book[0][0]))


def outsides(book):
    """Return the ascending tuple of the least OUTSIDES of a BOOK."""
    frame, changes = book[0], changes_of(book)
    found = sorted(set([outside(frame, changes, family) for family in families(frame, changes)]))
    least = []
    # What has another one in it has more members, so it comes behind it.
    for space in sorted(found, key=len):
        if not any([lies_in(other, space) for other in least]):
            least.append(space)
    return tuple(sorted(least))


def few_outsides(book):
    """Return the least OUTSIDES of a BOOK, if they are not too many to look at each."""
    found = outsides(book)
    if len(found) > MOST_OUTSIDES:
        raise TooMany(MOST_OUTSIDES)
    return found


def is_safe(book, reading):
    """Tell whether a READING, or a reading of FRACTIONS, is SAFE."""
    return is_nought_in_some(outsides(book), reading)


def is_nought_in_some(spaces, reading):
    """Tell whether a reading, of either kind, has the VALUE 0 at all VECTORS in some one of some SPACES."""
    return any([is_nought_in(space, reading) for space in spaces])


def is_nought_in(space, reading):
    """Tell whether a reading, of either kind, has the VALUE 0 at all VECTORS in a SPACE."""
    return all([is_nought_at(whole_reading(reading), row) for row in space])


def is_nought_at(reading, numbers):
    """Tell whether a READING has the VALUE 0 at a WHOLE VECTOR."""
    return sign_of(value(reading, vector_of(numbers))) == 0


def whole_reading(reading):
    """Return a READING; for one of FRACTIONS a multiple of it, which is 0 at the same VECTORS."""
    return reading if is_integer(reading[0]) else cleared(reading)


def unsafe_pair(book, reading):
    """Return the least tuple of two LEAST CHANGES by which a reading is not SAFE, None if it is."""
    frame, changes = book[0], changes_of(book)
    # More FAMILIES than can be looked at are told of, though these are not asked for here.
    families(frame, changes)
    return pair_apart(frame, changes, whole_reading(reading))


def pair_apart(frame, changes, reading):
    """Return the least tuple of two LEAST CHANGES at which a READING isn't 0, and which don't CROSS, or None."""
    moving = tuple([change for change in changes if not is_nought_at(reading, change)])
    for one, other in uncrossed(frame, moving):
        return (moving[one], moving[other])
    return None
