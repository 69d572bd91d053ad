"""Makers for the tests: FRAMES, STANDS, BOOKS and HISTORIES drawn by chance, always the same ones for a seed."""

from fractions import Fraction


def told(one):
    """Return a FRACTION as Python's own."""
    return Fraction(one[0], one[1])


def numbers_of(vector):
    """Return the numbers of a VECTOR as Python's own."""
    return [told(number) for number in vector]


def shown(number):
    """Return Python's own Fraction as a FRACTION."""
    return (Fraction(number).numerator, Fraction(number).denominator)


def made_frame(draw, many=None, way=None):
    """Return a FRAME with cells from `a` on, each one in some group or added."""
    cells = tuple("abcdefgh"[:many or draw.randint(1, 5)])
    homes = [draw.randint(-1, 2) for _ in cells]
    groups = []
    for home in homes:
        group = tuple(cell for cell, other in zip(cells, homes) if other == home)
        if home >= 0 and group not in groups:
            groups.append(group)
    added = tuple(cell for cell, home in zip(cells, homes) if home < 0)
    return (cells, tuple(groups), added, way or draw.choice(("usual", "strict")))


def made_stand(draw, frame):
    """Return a STAND of a few near numbers."""
    return tuple(shown(Fraction(draw.randint(-3, 3), draw.choice((1, 1, 1, 2)))) for _ in frame[0])


def near_stand(draw, frame, stand):
    """Return a STAND that is the given one in most cells."""
    fresh = made_stand(draw, frame)
    return tuple(draw.choice((old, old, new)) for old, new in zip(stand, fresh))


def made_book(draw, frame, stand):
    """Return a BOOK that a STAND keeps, of limits, and at times of one sum."""
    rules = []
    for _ in range(draw.randint(0, 3)):
        reading = tuple(draw.randint(-2, 2) for _ in frame[0])
        value = sum(number * told(one) for number, one in zip(reading, stand))
        rules.append(("<=", reading, value.__ceil__() + draw.randint(0, 4)))
        if value.denominator == 1 and draw.random() < 0.1:
            rules.append(("=", reading, int(value)))
    return (frame, tuple(rules))


def good(book, stand):
    """Tell whether a STAND keeps all RULES, by Python's own Fractions."""
    for sign, reading, bound in book[1]:
        value = sum(number * told(one) for number, one in zip(reading, stand))
        if value > bound or (sign == "=" and value != bound):
            return False
    return True


def merge_by_words(frame, base, mine, yours):
    """Return (STAND, LOT of groups that CLASH) as the document defines the MERGE, cell by cell."""
    cells, groups, added, way = frame
    at = {cell: place for place, cell in enumerate(cells)}
    result, clashing = list(base), []
    for index, group in enumerate(groups):
        places = [at[cell] for cell in group]
        by_mine = any(told(mine[place]) - told(base[place]) != 0 for place in places)
        by_yours = any(told(yours[place]) - told(base[place]) != 0 for place in places)
        alike = all(told(mine[place]) == told(yours[place]) for place in places)
        if not by_mine:
            source = yours
        elif not by_yours or (alike and way == "usual"):
            source = mine
        else:
            clashing.append(index)
            continue
        for place in places:
            result[place] = source[place]
    for cell in added:
        place = at[cell]
        result[place] = shown(told(mine[place]) + told(yours[place]) - told(base[place]))
    return tuple(result), tuple(clashing)


def parents_by_words(deed):
    """Return the PARENTS of a DEED, in any order."""
    return {"first": (), "edit": deed[1:2], "settle": deed[1:3], "merge": deed[1:3], "pick": deed[1:2], "revert": deed[1:2]}[deed[0]]


def elders_by_words(history, version, known):
    """Return the set of the ELDERS of a VERSION; known has those that were asked for before."""
    if version not in known:
        found = {version}
        for parent in parents_by_words(history[version]):
            found |= elders_by_words(history, parent, known)
        known[version] = found
    return known[version]


def sides_by_words(deed):
    """Return the VERSIONS that are base, mine and yours of a merge, pick or revert."""
    if deed[0] == "merge":
        return deed[3], deed[1], deed[2]
    onto, begin, end = deed[1:]
    return (begin, end, onto) if deed[0] == "pick" else (end, begin, onto)


def made_history(draw, many):
    """Return a BOOK, a HISTORY of so many DEEDS, and the list of its STANDS."""
    frame = made_frame(draw)
    stand = made_stand(draw, frame)
    book = made_book(draw, frame, stand)
    history, stands, known = [("first", stand)], [stand], {}
    while len(history) < many:
        one, other, third = [draw.randrange(len(history)) for _ in range(3)]
        word = draw.choice(("edit", "edit", "settle", "merge", "merge", "pick", "revert"))
        if word in ("edit", "settle"):
            fresh = near_stand(draw, frame, stands[one])
            if not good(book, fresh):
                fresh = stand
            history.append((word, one, fresh) if word == "edit" else (word, one, other, fresh))
            stands.append(fresh)
            continue
        if word == "merge":
            common = elders_by_words(history, one, known) & elders_by_words(history, other, known)
            third = draw.choice(sorted(common))
        deed = (word, one, other, third)
        fresh, clashing = merge_by_words(frame, *[stands[version] for version in sides_by_words(deed)])
        if not clashing:
            history.append(deed)
            stands.append(fresh)
    return book, tuple(history), stands


def made_rules(draw, many, size=2, most=7):
    """Return a tuple of RULES that some STAND keeps: limits, equations, and limits that are met exactly."""
    point, full = [draw.randint(-size, size) for _ in range(many)], draw.choice((0.4, 0.7, 1))
    rules = []
    for _ in range(draw.randint(0, most)):
        reading = tuple(draw.randint(-size, size) if draw.random() < full else 0 for _ in range(many))
        value, kind = sum(one * other for one, other in zip(reading, point)), draw.random()
        if kind < 0.15:
            rules.append(("=", reading, value))
        elif kind < 0.9:
            rules.append(("<=", reading, value + draw.choice((0, 0, 1, 2, 5))))
        else:
            rules += [("<=", reading, value), ("<=", tuple(-number for number in reading), -value)]
    return tuple(rules)


def made_ruled_book(draw, many=None, way=None):
    """Return a BOOK of any FRAME that has GOOD STANDS."""
    frame = made_frame(draw, many, way)
    return (frame, made_rules(draw, len(frame[0])))


def boxed(book, size):
    """Return a BOOK with limits behind its RULES that keep each cell from -size to size."""
    many = len(book[0][0])
    limits = [("<=", tuple(sign * (k == place) for k in range(many)), size) for place in range(many) for sign in (1, -1)]
    return (book[0], book[1] + tuple(limits))


def made_great_rules(draw, cells, size, equal, many=16):
    """Return a tuple of so many RULES of any numbers up to size, some first ones of them equations; that 0 keeps all."""
    readings = [tuple(draw.randint(-size, size) for _ in cells) for _ in range(equal)]
    limits = [("<=", tuple(draw.randint(-size, size) for _ in cells), draw.randint(1, size)) for _ in range(many - equal)]
    return tuple(("=", reading, 0) for reading in readings) + tuple(limits)
