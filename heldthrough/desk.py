"""A desk: a House led by lines."""

from heldthrough.booktexts import read_book, read_vector, reading_in, rule_in, show_book, show_vector, words_of
from heldthrough.errors import NoCommand, NoText
from heldthrough.forms import is_name
from heldthrough.fractions import show_fraction
from heldthrough.held import place
from heldthrough.heldlimits import greatest_held
from heldthrough.house import House, check_kinds
from heldthrough.onemerge import breaking
from heldthrough.roads import road
from heldthrough.storetexts import show_history, version_in

# For the word of each command: what stands behind it. The last kinds take all words that are left, perhaps none.
COMMANDS = {
    "point": ("name", "version"),
    "drop": ("name",),
    "rule": ("rule",),
    "out": ("version",),
    "undo": (),
    "edit": ("name", "stand"),
    "merge": ("name", "name"),
    "settle": ("name", "name", "stand"),
    "pick": ("name", "version", "version"),
    "revert": ("name", "version", "version"),
    "book": (),
    "history": (),
    "branches": (),
    "stand": ("version",),
    "broken": (),
    "open": (),
    "survives": (),
    "most": ("reading",),
    "place": ("stand",),
    "road": ("stand",),
    "break": (),
    "looks": ("name", "name"),
    "mends": ("name",),
}
ONE_WORD = ("name", "version")


class Desk:
    """A House led by lines."""

    def __init__(self, text, start):
        check_kinds([isinstance(text, str), isinstance(start, str)])
        book = read_book(text)
        self._house = House(book, read_vector(book[0], start))

    def house(self):
        """Return a twin of the House."""
        return self._house.twin()

    def execute(self, line):
        """Execute a line; return the list of the lines that answer it."""
        check_kinds([isinstance(line, str)])
        words = words_of(line)
        if words == [] or words[0] not in COMMANDS:
            raise NoCommand(line)
        told = arguments_in(self._house.book(), COMMANDS[words[0]], words[1:])
        if told is None:
            raise NoCommand(line)
        return self._answer(words[0], told)

    def _answer(self, word, told):
        """Return what answers a command with these arguments."""
        house = self._house
        changes = {"point": house.point, "drop": house.drop, "rule": house.with_rule, "out": house.without_rule,
                   "undo": house.undo}
        makes = {"edit": house.edit, "merge": house.merge, "settle": house.settle, "pick": house.pick,
                 "revert": house.revert}
        if word in changes:
            change = changes[word]
            change(*told)
            return ["done"]
        if word in makes:
            make = makes[word]
            return [str(make(*told))]
        asks = {"book": self._show_book, "history": self._show_history, "branches": self._show_branches,
                "stand": self._show_stand, "broken": self._show_broken, "open": self._show_rules,
                "survives": self._show_survival, "most": self._show_most, "place": self._show_place,
                "road": self._show_road, "break": self._show_break, "looks": self._show_looks,
                "mends": self._show_mends}
        ask = asks[word]
        return ask(*told)

    def _show_book(self):
        """Answer `book`."""
        return show_book(self._house.book()).split("\n")

    def _show_history(self):
        """Answer `history`."""
        return lines_of(self._house.book(), self._house.history())

    def _show_branches(self):
        """Answer `branches`."""
        return [f"{name} {head}" for name, head in self._house.heads().items()]

    def _show_stand(self, version):
        """Answer `stand`."""
        return [show_vector(self._house.book()[0], self._house.stand(version))]

    def _show_broken(self):
        """Answer `broken`."""
        return [f"{name} {numbers_line(rules)}" for name, rules in self._house.broken_heads().items()]

    def _show_rules(self):
        """Answer `open`."""
        return [numbers_line(self._house.open_rules())]

    def _show_survival(self):
        """Answer `survives`."""
        return ["yes" if self._house.survives() else "no"]

    def _show_most(self, reading):
        """Answer `most`."""
        found = greatest_held(self._house.book(), reading)
        return [show_fraction(found[1]) if found[0] == "at" else "endless"]

    def _show_place(self, stand):
        """Answer `place`."""
        return [place(self._house.book(), stand)]

    def _show_road(self, stand):
        """Answer `road`."""
        book = self._house.book()
        return lines_of(book, road(book, stand))

    def _show_break(self):
        """Answer `break`."""
        book = self._house.book()
        history = breaking(book)
        return [] if history is None else lines_of(book, history)

    def _show_looks(self, name, other):
        """Answer `looks`."""
        rules = self._house.looks(name, other)
        return ["unknown" if rules is None else numbers_line(rules)]

    def _show_mends(self, name):
        """Answer `mends`."""
        return [numbers_line(pieces) if pieces else "none" for pieces, _ in self._house.mends(name)]


def lines_of(book, history):
    """Return the list of the lines of a HISTORY."""
    return show_history(book, history).split("\n")


def numbers_line(numbers):
    """Return integers with one blank between."""
    return " ".join([str(number) for number in numbers])


def arguments_in(book, kinds, words):
    """Return the list of what words show that have to be of these kinds, for a BOOK; None if they are not."""
    found = []
    for kind in kinds:
        taken, words = (words[:1], words[1:]) if kind in ONE_WORD else (words, [])
        found.append(argument_in(book, kind, taken))
    return None if words or None in found else found


def argument_in(book, kind, words):
    """Return what words show, which have to be of a kind; None if they show nothing of it."""
    cells = book[0][0]
    if kind == "rule":
        return rule_in(cells, words)
    if kind == "reading":
        return reading_in(cells, words)
    if kind == "stand":
        return stand_in(book[0], words)
    if words == []:
        return None
    if kind == "version":
        return version_in(words[0])
    return words[0] if is_name(words[0]) else None


def stand_in(frame, words):
    """Return the STAND that words show, None if they show none."""
    try:
        return read_vector(frame, " ".join(words))
    except NoText:
        return None
