"""HISTORIES as texts."""

from heldthrough.booktexts import read_vector, show_vector, words_of
from heldthrough.errors import NoText, Wrong
from heldthrough.forms import is_book
from heldthrough.fractions import integer_in
from heldthrough.histories import DEEDS, has_stand, history_fault

MOST_FIGURES = 3


def show_history(book, history):
    """Return the text of a HISTORY."""
    return "\n".join([shown_deed(book[0], deed) for deed in history])


def shown_deed(frame, deed):
    """Return the line of a DEED."""
    words = [deed[0]] + [str(version) for version in deed[1:1 + DEEDS[deed[0]][0]]]
    if has_stand(deed):
        words.append(show_vector(frame, deed[-1]))
    return " ".join([word for word in words if word != ""])


def read_history(book, text):
    """Return the HISTORY that a text shows."""
    if not is_book(book):
        raise Wrong(0)
    if not isinstance(text, str):
        raise Wrong(1)
    lines = [words_of(line) for line in text.split("\n")]
    told = [at for at in range(len(lines)) if lines[at] != []]
    deeds = tuple([deed_in(book[0], lines[at]) for at in told])
    if deeds == ():
        raise NoText(len(lines))
    fault = history_fault(book, deeds)
    if fault is not None:
        raise NoText(told[fault[1]])
    return deeds


def deed_in(frame, words):
    """Return what a line with these words shows; if it is of no form, something that is no DEED."""
    if words[0] not in DEEDS:
        return None
    many = DEEDS[words[0]][0]
    deed = (words[0],) + tuple([version_in(word) for word in words[1:1 + many]])
    rest = words[1 + many:]
    if not has_stand(deed):
        return deed if rest == [] else None
    try:
        return deed + (read_vector(frame, " ".join(rest)),)
    except NoText:
        return None


def version_in(word):
    """Return the VERSION that a word shows, None if it shows none."""
    version = integer_in(word)
    if version is None or version < 0 or len(word) > MOST_FIGURES:
        return None
    return version
