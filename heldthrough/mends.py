"""How a STAND that is not GOOD can be mended, piece by piece, and who has brought what to a MERGE."""

from itertools import combinations

from heldthrough.books import is_good, value
from heldthrough.crossing import is_part
from heldthrough.forms import is_ascending, is_integer, is_tuple_of, is_vector
from heldthrough.frames import added_places, moved, places_of
from heldthrough.held import Slope
from heldthrough.limits import check_stand
from heldthrough.merges import change
from heldthrough.spaces import units
from heldthrough.unseen import parts_of


def mends(book, stand):
    """Return the ascending tuple of tuples (pieces, good): the least PIECES by which a STAND can be mended."""
    check_stand(book)
    if is_good(book, stand):
        return (((), stand),)
    many, found = pieces_in(book[0]), []
    for size in range(1, many + 1):
        for pieces in combinations(range(many), size):
            if not any([is_part(other, pieces) for other, _ in found]):
                good = mended(book, stand, pieces)
                if good is not None:
                    found.append((pieces, good))
    return tuple(sorted(found))


def pieces_in(frame):
    """Return how many PIECES a FRAME has."""
    return len(frame[1]) + len(frame[2])


def mended(book, stand, pieces):
    """Return a GOOD STAND that differs from a STAND only in cells of some PIECES, None if there is none."""
    free = units(places_of_pieces(book[0], pieces), len(stand))
    word, good = Slope(book, free).led(stand)
    return good if word == "held" else None


def places_of_pieces(frame, pieces):
    """Return the ascending tuple of the PLACES of the cells of some PIECES."""
    return tuple(sorted([place for piece in pieces for place in places_of_piece(frame, piece)]))


def places_of_piece(frame, piece):
    """Return the tuple of the PLACES of the cells of a PIECE."""
    many = len(frame[1])
    return places_of(frame, (piece,)) if piece < many else (added_places(frame)[piece - many],)


def is_mend(book, stand, thing):
    """Tell whether a value is a tuple (pieces, good) as mends could tell."""
    if not is_tuple_of(thing, 2) or not are_pieces(book[0], thing[0]) or not is_vector(book[0], thing[1]):
        return False
    pieces, good = thing
    places = places_of_pieces(book[0], pieces)
    if not is_good(book, good) or not all([place in places for place in moved(change(stand, good))]):
        return False
    # What does with fewer PIECES does with one of them left out.
    fewer = [pieces[:at] + pieces[at + 1:] for at in range(len(pieces))]
    return all([mended(book, stand, left) is None for left in fewer])


def are_pieces(frame, thing):
    """Tell whether a value is an ascending tuple of PIECES."""
    if not isinstance(thing, tuple) or not all([is_integer(piece) for piece in thing]):
        return False
    return is_ascending(thing) and all([0 <= piece < pieces_in(frame) for piece in thing])


def blame(book, base, mine, yours, index):
    """Return the tuple of what both branches, the one alone, and the other alone, brought to the VALUE of a RULE."""
    reading = book[1][index][1]
    return tuple([value(reading, one) for one in parts_of(book[0], base, mine, yours)])


def hands(frame, base, mine, yours):
    """Return a tuple with a word for each PIECE: by whom it was changed."""
    lots = [moved(change(base, stand)) for stand in (mine, yours)]
    words = {(True, True): "both", (True, False): "mine", (False, True): "yours", (False, False): "none"}
    found = []
    for piece in range(pieces_in(frame)):
        places = places_of_piece(frame, piece)
        by_mine, by_yours = [any([place in lot for place in places]) for lot in lots]
        found.append(words[(by_mine, by_yours)])
    return tuple(found)
