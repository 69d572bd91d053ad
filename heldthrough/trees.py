"""HISTORIES as trees of merges, which can be laid into each other, and chains of such.

A tree is ("at", stand), or ("merge", base, mine, yours) of three trees. Where VECTORS stand in
the place of STANDS, the tree tells of changes.
"""

from heldthrough.fractions import added, multiple, whole
from heldthrough.merges import merged


def leaf(stand):
    """Return the tree of one STAND."""
    return ("at", stand)


def fork(base, mine, yours):
    """Return the tree of a merge of what two trees come to over what a base comes to."""
    return ("merge", base, mine, yours)


def end_of(frame, tree):
    """Return the STAND that a tree comes to."""
    if tree[0] == "at":
        return tree[1]
    base, mine, yours = [end_of(frame, one) for one in tree[1:]]
    return merged(frame, base, mine, yours)


def leaves_of(tree):
    """Return the list of the STANDS at the leaves of a tree."""
    if tree[0] == "at":
        return [tree[1]]
    return [stand for one in tree[1:] for stand in leaves_of(one)]


def size_of(tree):
    """Return the number of DEEDS that a tree makes."""
    if tree[0] == "at":
        return 1
    return 1 + sum([size_of(one) for one in tree[1:]])


def led_tree(tree, stand, share):
    """Return a tree with each leaf exchanged for a STAND and a share of what was there."""
    if tree[0] == "at":
        return leaf(added(stand, multiple(share, tree[1])))
    base, mine, yours = [led_tree(one, stand, share) for one in tree[1:]]
    return fork(base, mine, yours)


def stacked(tree, other):
    """Return the tree that comes to the sum of what two trees come to: the other is laid into the one at each leaf."""
    if tree[0] == "at":
        return led_tree(other, tree[1], whole(1))
    base, mine, yours = [stacked(one, other) for one in tree[1:]]
    return fork(base, mine, yours)


class Story:
    """A HISTORY that is told DEED by DEED."""

    def __init__(self):
        self.deeds = []

    def put(self, deed):
        """Put one DEED more; return its VERSION."""
        self.deeds.append(deed)
        return len(self.deeds) - 1

    def put_stand(self, parent, stand):
        """Put a GOOD STAND as an edit of a VERSION, as the first DEED if there is none yet; return its VERSION."""
        return self.put(("edit", parent, stand) if self.deeds else ("first", stand))

    def put_tree(self, parent, tree):
        """Put a tree below a VERSION; return the VERSION that it comes to."""
        if tree[0] == "at":
            return self.put_stand(parent, tree[1])
        base = self.put_tree(parent, tree[1])
        mine = self.put_tree(base, tree[2])
        yours = self.put_tree(base, tree[3])
        return self.put(("merge", mine, yours, base))

    def put_chain(self, parent, start, links):
        """Put a chain below a VERSION; return the VERSION that it comes to.

        Each of the links is a tuple (base, yours) of trees: what leads from the one to the other
        is merged with what was come to ahead, start first. The bases are made
        first, the last one ahead, so that each is an ELDER of all that is merged.
        """
        bases = []
        for base, _ in links[::-1]:
            parent = self.put_tree(parent, base)
            bases.append(parent)
        here = self.put_tree(parent, start)
        for base, link in zip(bases[::-1], links):
            yours = self.put_tree(base, link[1])
            here = self.put(("merge", here, yours, base))
        return here

    def history(self):
        """Return the HISTORY told."""
        return tuple(self.deeds)
