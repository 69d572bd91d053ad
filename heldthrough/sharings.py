"""In which ways things can be shared out."""


def sharings(many, kinds):
    """Return the list of tuples that tell of each of so many things which of some kinds it gets, from 0 on.

    Kinds are numbered as they come, so ways that differ by an exchange of kinds are told once.
    """
    found = [()]
    for _ in range(many):
        found = [told + (kind,) for told in found for kind in range(min(kinds, max(told, default=-1) + 2))]
    return found
