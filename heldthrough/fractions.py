"""FRACTIONS and VECTORS: how they are reckoned with, shown and read."""

from math import gcd

from heldthrough.errors import NoText, Wrong
from heldthrough.forms import is_fraction

FIGURES = "0123456789"
MOST_FIGURES = 40
# What has no more bits than this Python shows at once.
MOST_BITS = 10000


def fraction(num, den):
    """Return the FRACTION that stands for num divided by den, which is not 0."""
    common = gcd(num, den)
    if den < 0:
        common = -common
    return (num // common, den // common)


def whole(integer):
    """Return the FRACTION that stands for an integer."""
    return (integer, 1)


def plus(one, other):
    """Return the sum of two FRACTIONS."""
    return fraction(one[0] * other[1] + other[0] * one[1], one[1] * other[1])


def minus(one, other):
    """Return the one FRACTION less the other."""
    return fraction(one[0] * other[1] - other[0] * one[1], one[1] * other[1])


def times(one, other):
    """Return the product of two FRACTIONS."""
    return fraction(one[0] * other[0], one[1] * other[1])


def over(one, other):
    """Return the one FRACTION divided by the other, which is not 0."""
    return fraction(one[0] * other[1], one[1] * other[0])


def is_less(one, other):
    """Tell whether the one FRACTION stands for less than the other."""
    return one[0] * other[1] < other[0] * one[1]


def is_at_most(one, other):
    """Tell whether the one FRACTION stands for no more than the other."""
    return one[0] * other[1] <= other[0] * one[1]


def sign_of(one):
    """Return -1, 0 or 1: the sign of a FRACTION."""
    if one[0] == 0:
        return 0
    return 1 if one[0] > 0 else -1


def floor_of(one):
    """Return the greatest integer that is not above a FRACTION."""
    return one[0] // one[1]


def nought(frame):
    """Return the VECTOR 0 of a FRAME."""
    return (whole(0),) * len(frame[0])


def added(one, other):
    """Return the sum of two VECTORS."""
    return tuple([plus(mine, yours) for mine, yours in zip(one, other)])


def less(one, other):
    """Return the one VECTOR less the other."""
    return tuple([minus(mine, yours) for mine, yours in zip(one, other)])


def multiple(share, vector):
    """Return a VECTOR multiplied by a FRACTION."""
    return tuple([times(share, number) for number in vector])


def vector_of(numbers):
    """Return the VECTOR of a WHOLE VECTOR."""
    return tuple([whole(number) for number in numbers])


def show_fraction(one):
    """Return the text of a FRACTION."""
    num, den = one
    return show_integer(num) if den == 1 else f"{show_integer(num)}/{show_integer(den)}"


def show_integer(number):
    """Return the text of an integer as Python shows it, also of one that is too long for Python to show at once."""
    parts, left = [], abs(number)
    while left.bit_length() > MOST_BITS:
        left, last = divmod(left, 10 ** 64)
        parts.append(str(last).zfill(64))
    sign = "-" if number < 0 else ""
    return sign + str(left) + "".join(parts[::-1])


def read_fraction(text):
    """Return the FRACTION with this text."""
    if not isinstance(text, str):
        raise Wrong(0)
    one = fraction_in(text)
    if one is None:
        raise NoText(0)
    return one


def fraction_in(text):
    """Return the FRACTION with this text, None if there is none."""
    top, slash, bottom = text.partition("/")
    num = integer_in(top)
    if slash == "":
        return None if num is None else whole(num)
    one = (num, integer_in(bottom))
    # A den of 1 is not shown, so no text has it.
    return one if is_fraction(one) and one[1] != 1 else None


def integer_in(word):
    """Return the integer that Python shows as this word, None if there is none of at most forty digits."""
    figures = word[1:] if word.startswith("-") else word
    if not 1 <= len(figures) <= MOST_FIGURES or not all([figure in FIGURES for figure in figures]):
        return None
    if figures.startswith("0") and word != "0":
        return None
    return int(word)
