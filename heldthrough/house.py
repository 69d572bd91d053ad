"""A House: a BOOK, a HISTORY of it, and branches, led by calls that can be taken back."""

from heldthrough.books import broken, keeps, with_rule, without_rule
from heldthrough.errors import NoName, NotGood, Nothing, Wrong
from heldthrough.forms import is_book, is_integer, is_name, is_rule, is_vector
from heldthrough.heldlimits import kept_rules, survives
from heldthrough.histories import check_version, has_stand, last_common, stand_made
from heldthrough.mends import mends
from heldthrough.unseen import looks_needed


class House:
    """A BOOK, a HISTORY of it, and the heads of branches; what was there ahead of each change is kept, too.

    All that is kept are tuples, so whatever was there ahead stays as it was.
    """

    def __init__(self, book, stand):
        check_kinds([is_book(book), is_book(book) and is_vector(book[0], stand)])
        check_good(book, stand)
        self._book = book
        self._history = (("first", stand),)
        self._stands = (stand,)
        self._heads = (("main", 0),)
        self._past = []

    def __eq__(self, other):
        return (isinstance(other, House) and self._book == other._book and self._history == other._history
                and self._heads == other._heads)

    def book(self):
        """Return the BOOK."""
        return self._book

    def history(self):
        """Return the HISTORY."""
        return self._history

    def heads(self):
        """Return the dict from the names of the branches to their heads."""
        return {name: head for name, head in self._heads}

    def stand(self, version):
        """Return the STAND of a VERSION."""
        check_kinds([is_integer(version)])
        check_version(self._history, version)
        return self._stands[version]

    def stands(self):
        """Return the list of the STANDS of all VERSIONS."""
        return list(self._stands)

    def twin(self):
        """Return a House that is equal, can take back the same calls, and goes its own way."""
        other = House(self._book, self._stands[0])
        other._restore(self._kept())
        other._past = list(self._past)
        return other

    def point(self, name, version):
        """Let the branch of a NAME, which may be new, have a head."""
        check_kinds([is_name(name), is_integer(version)])
        check_version(self._history, version)
        self._keep()
        self._lead(name, version)

    def drop(self, name):
        """Take a branch away."""
        check_kinds([is_name(name)])
        self._head(name)
        self._keep()
        self._heads = tuple([told for told in self._heads if told[0] != name])

    def edit(self, name, stand):
        """Edit the head of a branch; return the VERSION made."""
        check_kinds([is_name(name), is_vector(self._book[0], stand)])
        head = self._head(name)
        check_good(self._book, stand)
        return self._put(name, ("edit", head, stand))

    def merge(self, name, other):
        """Merge the head of another branch to that of a branch; return the VERSION made."""
        check_kinds([is_name(name), is_name(other)])
        return self._put(name, ("merge", *self._sides(name, other)))

    def settle(self, name, other, stand):
        """Settle the heads of two branches by a STAND; return the VERSION made."""
        check_kinds([is_name(name), is_name(other), is_vector(self._book[0], stand)])
        heads = (self._head(name), self._head(other))
        check_good(self._book, stand)
        return self._put(name, ("settle", *heads, stand))

    def pick(self, name, begin, end):
        """Do what led from a VERSION to another one onto the head of a branch; return the VERSION made."""
        return self._put(name, ("pick", *self._bounds(name, begin, end)))

    def revert(self, name, begin, end):
        """Undo what led from a VERSION to another one on the head of a branch; return the VERSION made."""
        return self._put(name, ("revert", *self._bounds(name, begin, end)))

    def with_rule(self, rule):
        """Put a RULE behind all others, if all STANDS that DEEDS tell themselves keep it."""
        check_kinds([is_rule(self._book[0], rule)])
        for deed in self._history:
            if has_stand(deed) and not keeps(rule, deed[-1]):
                raise NotGood(len(self._book[1]))
        self._keep()
        self._book = with_rule(self._book, rule)

    def without_rule(self, index):
        """Take the RULE of an index out."""
        check_kinds([is_integer(index)])
        if not 0 <= index < len(self._book[1]):
            raise Nothing()
        self._keep()
        self._book = without_rule(self._book, index)

    def undo(self):
        """Take back the last change that is not taken back yet."""
        if not self._past:
            raise Nothing()
        self._restore(self._past.pop())

    def survives(self):
        """Tell whether the BOOK survives."""
        return survives(self._book)

    def open_rules(self):
        """Return the ascending tuple of the indexes of the RULES that some VERSION of some HISTORY breaks."""
        kept = kept_rules(self._book)
        return tuple([index for index in range(len(self._book[1])) if index not in kept])

    def broken_heads(self):
        """Return the dict from the names of the branches whose head is not GOOD to the indexes of the broken RULES."""
        told = [(name, broken(self._book, self._stands[head])) for name, head in self._heads]
        return {name: rules for name, rules in told if rules != ()}

    def looks(self, name, other):
        """Return which RULES the merge of two branches can break, None if not all is GOOD that it is made of."""
        check_kinds([is_name(name), is_name(other)])
        mine, yours, base = [self._stands[version] for version in self._sides(name, other)]
        if any([broken(self._book, stand) != () for stand in (base, mine, yours)]):
            return None
        return looks_needed(self._book, base, mine, yours)

    def mends(self, name):
        """Return how the head of a branch can be mended."""
        check_kinds([is_name(name)])
        return mends(self._book, self._stands[self._head(name)])

    def _head(self, name):
        """Return the head of a branch; raise NoName if there is no such one."""
        for told, head in self._heads:
            if told == name:
                return head
        raise NoName(name)

    def _sides(self, name, other):
        """Return the tuple (mine, yours, base) of the merge of two branches."""
        mine, yours = self._head(name), self._head(other)
        return (mine, yours, last_common(self._history, mine, yours)[-1])

    def _bounds(self, name, begin, end):
        """Return the tuple (onto, begin, end) of a pick or revert; raise what it raises if they are not right."""
        check_kinds([is_name(name), is_integer(begin), is_integer(end)])
        onto = self._head(name)
        check_version(self._history, begin)
        check_version(self._history, end)
        return (onto, begin, end)

    def _kept(self):
        """Return the tuple of all that there is."""
        return (self._book, self._history, self._stands, self._heads)

    def _keep(self):
        """Keep all that there is, ahead of a change."""
        self._past.append(self._kept())

    def _restore(self, kept):
        """Let all be as it was kept."""
        self._book, self._history, self._stands, self._heads = kept

    def _lead(self, name, version):
        """Let a branch have a head."""
        others = [told for told in self._heads if told[0] != name]
        self._heads = tuple(sorted([*others, (name, version)]))

    def _put(self, name, deed):
        """Put one DEED more, as the head of a branch; return its VERSION."""
        stand = stand_made(self._book[0], self._stands, deed)
        version = len(self._history)
        self._keep()
        self._history = (*self._history, deed)
        self._stands = (*self._stands, stand)
        self._lead(name, version)
        return version


def check_kinds(kinds):
    """Raise Wrong if one of some arguments is not of the kind that it has to be; kinds tells of each whether it is."""
    for place, is_so in enumerate(kinds):
        if not is_so:
            raise Wrong(place)


def check_good(book, stand):
    """Raise NotGood if a STAND is not GOOD."""
    rules = broken(book, stand)
    if rules != ():
        raise NotGood(rules[0])
