"""FRAMES: where their cells stand, and the FRAMES that come of them."""


def group_of(frame, cell):
    """Return the index of the group of a cell, None for an added one."""
    for index, group in enumerate(frame[1]):
        if cell in group:
            return index
    return None


def places_of(frame, lot):
    """Return the ascending tuple of the PLACES of all cells in the groups of a LOT."""
    return places_of_cells(frame, [cell for index in lot for cell in frame[1][index]])


def added_places(frame):
    """Return the ascending tuple of the PLACES of the added cells."""
    return places_of_cells(frame, frame[2])


def moved(vector):
    """Return the ascending tuple of the PLACES of the cells that a VECTOR MOVES."""
    return tuple([place for place, number in enumerate(vector) if number[0] != 0])


def touched(frame, vector):
    """Return the LOT of the groups that a VECTOR TOUCHES."""
    cells = [frame[0][place] for place in moved(vector)]
    groups = [group_of(frame, cell) for cell in cells]
    return tuple([index for index in range(len(frame[1])) if index in groups])


def part(frame, vector, places):
    """Return the VECTOR that is as the given one at these PLACES, and 0 in all other cells."""
    return tuple([number if place in places else (0, 1) for place, number in enumerate(vector)])


def linked(frame, lots):
    """Return the FRAME in which the groups of each LOT are joined to one."""
    cells, groups, added, way = frame
    bound = [index for lot in lots for index in lot]
    alone = [group for index, group in enumerate(groups) if index not in bound]
    joined = [[cell for index in lot for cell in groups[index]] for lot in lots]
    return (cells, in_order(cells, alone + joined), added, way)


def taken(frame, cell):
    """Return the FRAME in which an added cell is a group of its own."""
    cells, groups, added, way = frame
    left = tuple([other for other in added if other != cell])
    return (cells, in_order(cells, [*groups, (cell,)]), left, way)


def with_way(frame, way):
    """Return the FRAME with this way."""
    return frame[:3] + (way,)


def renamed(frame, names):
    """Return the FRAME in which each cell has the NAME at its PLACE in names."""
    cells, groups, added, way = frame
    name_of = {cell: name for cell, name in zip(cells, names)}
    fresh = [tuple([name_of[cell] for cell in group]) for group in groups]
    return (names, tuple(fresh), tuple([name_of[cell] for cell in added]), way)


def places_of_cells(frame, cells):
    """Return the ascending tuple of the PLACES of some cells."""
    return tuple([place for place, cell in enumerate(frame[0]) if cell in cells])


def in_order(cells, parts):
    """Return the tuple of GROUPS, in the order that a FRAME asks for, that consist of these parts of its cells."""
    lots = sorted([sorted([cells.index(cell) for cell in group]) for group in parts])
    return tuple([tuple([cells[place] for place in places]) for places in lots])
