"""HISTORIES: what they are, what stands in their VERSIONS, and the HISTORIES that come of them."""

from heldthrough.books import broken, is_good
from heldthrough.errors import Clash, NoVersion
from heldthrough.forms import is_integer, is_tuple_of, is_vector
from heldthrough.fractions import added, multiple
from heldthrough.merges import change, merged, picked, reverted

# For the word of each DEED: how many VERSIONS stand behind it, how many of these, the
# first ones, are its PARENTS, and how many STANDS stand behind the VERSIONS.
DEEDS = {
    "first": (0, 0, 1),
    "edit": (1, 1, 1),
    "settle": (2, 2, 1),
    "merge": (3, 2, 0),
    "pick": (3, 1, 0),
    "revert": (3, 1, 0),
}


def history_fault(book, thing):
    """Return what is the first fault of a value as a HISTORY of a BOOK, None if it is one."""
    if not isinstance(thing, tuple) or thing == ():
        return ("form",)
    stands = []
    for k, deed in enumerate(thing):
        fault = deed_fault(book, thing, k)
        if fault is not None:
            return fault
        try:
            stands.append(stand_made(book[0], stands, deed))
        except Clash as clash:
            return ("clash", k, clash.groups)
    return None


def deed_fault(book, history, k):
    """Return what is wrong with item k, if those ahead are right, but for a clash; None if nothing is."""
    deed = history[k]
    if not is_deed(book[0], k, deed):
        return ("deed", k)
    if has_stand(deed):
        rules = broken(book, deed[-1])
        return ("good", k, rules[0]) if rules else None
    if deed[0] == "merge" and deed[3] not in common_elders(history, deed[1], deed[2]):
        return ("elder", k)
    return None


def is_deed(frame, k, thing):
    """Tell whether a value has the form of DEED k."""
    if not isinstance(thing, tuple) or thing == () or not isinstance(thing[0], str) or thing[0] not in DEEDS:
        return False
    versions, stands = DEEDS[thing[0]][0], DEEDS[thing[0]][2]
    if (thing[0] == "first") != (k == 0) or not is_tuple_of(thing, 1 + versions + stands):
        return False
    if not all([is_integer(version) and 0 <= version < k for version in thing[1:1 + versions]]):
        return False
    return all([is_vector(frame, stand) for stand in thing[1 + versions:]])


def has_stand(deed):
    """Tell whether a DEED tells its STAND itself."""
    return DEEDS[deed[0]][2] == 1


def stand_made(frame, stands, deed):
    """Return the STAND that a DEED makes behind VERSIONS with these STANDS."""
    if has_stand(deed):
        return deed[-1]
    one, other, third = [stands[version] for version in deed[1:]]
    if deed[0] == "merge":
        return merged(frame, third, one, other)
    if deed[0] == "pick":
        return picked(frame, one, other, third)
    return reverted(frame, one, other, third)


def is_history(book, thing):
    """Tell whether a value is a HISTORY of a BOOK."""
    return history_fault(book, thing) is None


def stands_of(book, history):
    """Return the tuple of the STANDS of all VERSIONS."""
    stands = []
    for deed in history:
        stands.append(stand_made(book[0], stands, deed))
    return tuple(stands)


def parents_of(history, version):
    """Return the ascending tuple of the PARENTS of a VERSION."""
    check_version(history, version)
    deed = history[version]
    return tuple(sorted(set(deed[1:1 + DEEDS[deed[0]][1]])))


def check_version(history, version):
    """Raise NoVersion if an integer is the index of no VERSION."""
    if not 0 <= version < len(history):
        raise NoVersion(version)


def elders_of(history, version):
    """Return the ascending tuple of the ELDERS of a VERSION."""
    check_version(history, version)
    is_elder = [False] * version + [True]
    # PARENTS are made ahead: going down, a VERSION is looked at when all ways to it have been gone.
    for k in range(version, -1, -1):
        if is_elder[k]:
            for parent in parents_of(history, k):
                is_elder[parent] = True
    return tuple([k for k in range(version + 1) if is_elder[k]])


def common_elders(history, one, other):
    """Return the ascending tuple of the COMMON ELDERS of two VERSIONS."""
    mine, yours = elders_of(history, one), elders_of(history, other)
    return tuple([version for version in mine if version in yours])


def last_common(history, one, other):
    """Return the ascending tuple of the LAST COMMON ELDERS of two VERSIONS."""
    common = common_elders(history, one, other)
    # The ELDERS of a COMMON ELDER are such, too: what is an ELDER of another one is a PARENT of some one.
    parents = [parent for version in common for parent in parents_of(history, version)]
    return tuple([version for version in common if version not in parents])


def first_broken(book, history):
    """Return the first VERSION whose STAND is not GOOD, None if there is none."""
    for version, stand in enumerate(stands_of(book, history)):
        if not is_good(book, stand):
            return version
    return None


def shrunk(book, history, stand, share):
    """Return the HISTORY in which each STAND of a DEED is led to a GOOD STAND, but for a share of the way."""
    return tuple([led_deed(deed, stand, share) for deed in history])


def led_deed(deed, stand, share):
    """Return a DEED with its STAND, if it has one, led to another STAND, but for a share of the way."""
    if not has_stand(deed):
        return deed
    way = change(stand, deed[-1])
    return deed[:-1] + (added(stand, multiple(share, way)),)


def grafted(history, version, other):
    """Return the HISTORY with the DEEDS of another one behind its own, the first one as an edit of a VERSION."""
    check_version(history, version)
    many = len(history)
    later = [later_deed(deed, many) for deed in other[1:]]
    return history + (("edit", version, other[0][1]),) + tuple(later)


def later_deed(deed, many):
    """Return a DEED with each VERSION that it names greater by many."""
    versions = DEEDS[deed[0]][0]
    named = [version + many for version in deed[1:1 + versions]]
    return deed[:1] + tuple(named) + deed[1 + versions:]
