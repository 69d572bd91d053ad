"""What the values of the package look like: each function tells it of any value."""

from math import gcd

LETTERS = "abcdefghijklmnopqrstuvwxyz"
WAYS = ("usual", "strict")
SIGNS = ("=", "<=")


def is_integer(thing):
    """Tell whether a value is an integer; truths are none."""
    return isinstance(thing, int) and not isinstance(thing, bool)


def is_name(thing):
    """Tell whether a value is a NAME."""
    if not isinstance(thing, str) or not 1 <= len(thing) <= 12:
        return False
    return all([letter in LETTERS for letter in thing])


def is_fraction(thing):
    """Tell whether a value is a FRACTION."""
    if not is_tuple_of(thing, 2):
        return False
    num, den = thing
    return is_integer(num) and is_integer(den) and den >= 1 and gcd(num, den) == 1


def is_frame(thing):
    """Tell whether a value is a FRAME."""
    if not is_tuple_of(thing, 4):
        return False
    cells, groups, added, way = thing
    if not are_cells(cells) or not isinstance(groups, tuple) or way not in WAYS:
        return False
    return are_parts(cells, groups, added)


def is_lot(frame, thing):
    """Tell whether a value is a LOT of a FRAME."""
    if not isinstance(thing, tuple):
        return False
    many = len(frame[1])
    if not all([is_integer(index) and 0 <= index < many for index in thing]):
        return False
    return is_ascending(thing)


def is_vector(frame, thing):
    """Tell whether a value is a VECTOR of a FRAME."""
    return are_fractions(len(frame[0]), thing)


def is_reading(frame, thing):
    """Tell whether a value is a READING of a FRAME."""
    return is_tuple_of(thing, len(frame[0])) and all([is_integer(number) for number in thing])


def is_rule(frame, thing):
    """Tell whether a value is a RULE of a FRAME."""
    if not is_tuple_of(thing, 3):
        return False
    sign, reading, bound = thing
    return sign in SIGNS and is_reading(frame, reading) and is_integer(bound)


def is_book(thing):
    """Tell whether a value is a BOOK."""
    if not is_tuple_of(thing, 2):
        return False
    frame, rules = thing
    if not is_frame(frame) or not isinstance(rules, tuple):
        return False
    return all([is_rule(frame, rule) for rule in rules])


def is_tuple_of(thing, many):
    """Tell whether a value is a tuple of so many items."""
    return isinstance(thing, tuple) and len(thing) == many


def are_fractions(many, thing):
    """Tell whether a value is a tuple of so many FRACTIONS."""
    return is_tuple_of(thing, many) and all([is_fraction(number) for number in thing])


def is_ascending(numbers):
    """Tell whether each of a list or tuple of integers is above the one ahead."""
    return all([low < high for low, high in zip(numbers, numbers[1:])])


def are_cells(thing):
    """Tell whether a value is a tuple of unlike NAMES, at least one."""
    if not isinstance(thing, tuple) or not all([is_name(cell) for cell in thing]):
        return False
    return len(thing) > 0 and len(set(thing)) == len(thing)


def are_parts(cells, groups, added):
    """Tell whether the items of groups and added are GROUPS and added cells of these cells."""
    places = {cell: place for place, cell in enumerate(cells)}
    parts = [places_in_order(places, part) for part in (*groups, added)]
    if None in parts or [] in parts[:-1]:
        return False
    stood = [place for part in parts for place in part]
    return is_ascending([part[0] for part in parts[:-1]]) and sorted(stood) == list(range(len(cells)))


def places_in_order(places, thing):
    """Return the list of the places of a tuple of cells in their order, None for what is no such tuple."""
    if not isinstance(thing, tuple):
        return None
    # What is no NAME is left out first, as it may be no key of a dict.
    if not all([is_name(cell) and cell in places for cell in thing]):
        return None
    found = [places[cell] for cell in thing]
    return found if is_ascending(found) else None
