"""BOOKS and VECTORS as texts."""

from heldthrough.errors import NoText, Wrong
from heldthrough.forms import SIGNS, WAYS, is_frame, is_name
from heldthrough.fractions import fraction_in, integer_in, show_fraction, show_integer, whole
from heldthrough.frames import in_order, moved


def show_book(book):
    """Return the text of a BOOK."""
    (cells, groups, added, way), rules = book
    lines = [["sheet", way], ["cells", *cells]]
    lines = lines + [["group", *group] for group in groups]
    if added:
        lines.append(["added", *added])
    lines = lines + [rule_words(cells, rule) for rule in rules]
    return "\n".join([" ".join(words) for words in lines])


def rule_words(cells, rule):
    """Return the list of the words in the line of a RULE."""
    sign, reading, bound = rule
    words = ["rule"]
    for number, cell in zip(reading, cells):
        if number != 0:
            words.extend([show_integer(number), cell])
    return [*words, sign, show_integer(bound)]


def read_book(text):
    """Return the BOOK that a text shows."""
    if not isinstance(text, str):
        raise Wrong(0)
    lines = [words_of(line) for line in text.split("\n")]
    sheet = Sheet()
    for at, words in enumerate(lines):
        if words and not sheet.took(words):
            raise NoText(at)
    if not sheet.lacks_nothing():
        raise NoText(len(lines))
    return sheet.book()


def words_of(line):
    """Return the list of the words of a line, which are parted by blanks."""
    return [word for word in line.split(" ") if word != ""]


class Sheet:
    """What the lines of a BOOK's text have told so far."""

    def __init__(self):
        self.way = None
        self.cells = ()
        self.groups = []
        self.added = []
        self.stood = []
        self.rules = []

    def took(self, words):
        """Take the words of the next line in; tell whether they are right there."""
        if self.way is None:
            return self.took_way(words)
        if self.cells == ():
            return self.took_cells(words)
        if not self.lacks_nothing():
            return self.took_part(words)
        return self.took_rule(words)

    def took_way(self, words):
        """Take the first line in."""
        if len(words) != 2 or words[0] != "sheet" or words[1] not in WAYS:
            return False
        self.way = words[1]
        return True

    def took_cells(self, words):
        """Take the line of the cells in."""
        names = words[1:]
        if words[0] != "cells" or not names or not all([is_name(name) for name in names]):
            return False
        if has_twice(names):
            return False
        self.cells = tuple(names)
        return True

    def took_part(self, words):
        """Take the line of a group or of the added cells in."""
        told = words[1:]
        if words[0] not in ("group", "added") or (words[0] == "added" and self.added):
            return False
        if not told or has_twice(told) or not all([cell in self.cells for cell in told]):
            return False
        if any([cell in self.stood for cell in told]):
            return False
        self.stood.extend(told)
        if words[0] == "added":
            self.added = told
        else:
            self.groups.append(told)
        return True

    def took_rule(self, words):
        """Take the line of a RULE in."""
        rule = rule_in(self.cells, words[1:])
        if words[0] != "rule" or rule is None:
            return False
        self.rules.append(rule)
        return True

    def lacks_nothing(self):
        """Tell whether nothing lacks: whether the cells are told, and each one has stood."""
        return self.cells != () and len(self.stood) == len(self.cells)

    def book(self):
        """Return the BOOK that was told."""
        added = tuple([cell for cell in self.cells if cell in self.added])
        frame = (self.cells, in_order(self.cells, self.groups), added, self.way)
        return (frame, tuple(self.rules))


def has_twice(words):
    """Tell whether some word stands twice in a list."""
    return len(set(words)) < len(words)


def rule_in(cells, words):
    """Return the RULE that these words show, which stand behind `rule`; None if they show none."""
    if len(words) < 2 or words[-2] not in SIGNS:
        return None
    reading, bound = reading_in(cells, words[:-2]), integer_in(words[-1])
    if reading is None or bound is None:
        return None
    return (words[-2], reading, bound)


def reading_in(cells, words):
    """Return the READING that these words show, integers and cells by turns; None if they show none."""
    told = words[1::2]
    numbers = [integer_in(word) for word in words[::2]]
    if len(told) < len(numbers) or has_twice(told) or None in numbers:
        return None
    if not all([cell in cells for cell in told]):
        return None
    return tuple([numbers[told.index(cell)] if cell in told else 0 for cell in cells])


def show_vector(frame, vector):
    """Return the text of a VECTOR."""
    return ", ".join([f"{frame[0][place]} {show_fraction(vector[place])}" for place in moved(vector)])


def read_vector(frame, text):
    """Return the VECTOR that a text shows."""
    if not is_frame(frame):
        raise Wrong(0)
    if not isinstance(text, str):
        raise Wrong(1)
    told = {}
    for index, words in enumerate(items_of(text)):
        if not is_item(frame, words) or words[0] in told:
            raise NoText(index)
        told[words[0]] = fraction_in(words[1])
    return tuple([told.get(cell, whole(0)) for cell in frame[0]])


def items_of(text):
    """Return the list of the words of each item of a VECTOR's text, as lists; a text of blanks has none."""
    if words_of(text) == []:
        return []
    return [words_of(item) for item in text.split(",")]


def is_item(frame, words):
    """Tell whether words are a cell and the text of a FRACTION."""
    return len(words) == 2 and words[0] in frame[0] and fraction_in(words[1]) is not None
