"""Pictures told back from rounds."""

from rimsteps.cells import cell_order
from rimsteps.errors import NoRounds
from rimsteps.reading import edges_of
from rimsteps.rounds import rounds


def uprights(edges):
    """For each y the places at which these edges go up or down there, each the x of the cell to the right of it."""
    places = {}
    for x, y, way in edges:
        if way == 1:
            places.setdefault(y, []).append(x + 1)
        elif way == 3:
            places.setdefault(y, []).append(x)
    return places


def cells_within(one):
    """The cells within the round, in order; or NoRound."""
    places = uprights(edges_of(one))
    cells = []
    for y in sorted(places):
        # Going to the right one comes in at the first of two such places, out at the next one.
        turns = sorted(places[y])
        for at in range(0, len(turns), 2):
            cells.extend([(x, y) for x in range(turns[at], turns[at + 1])])
    return cells


def cells_told(some):
    """The cells that lie within more of the rims than of the hole's rounds, in order; or NoRound."""
    depths = {}
    for one in some:
        gain = 1 if one[0] == "rim" else -1
        for cell in cells_within(one):
            depths[cell] = depths.get(cell, 0) + gain
    return sorted([cell for cell, depth in depths.items() if depth > 0], key=cell_order)


def first_unlike(some, others):
    """The least index at which the lists differ; None where they don't."""
    for at, (one, other) in enumerate(zip(some, others)):
        if one != other:
            return at
    if len(some) != len(others):
        return min(len(some), len(others))
    return None


def picture_of(some):
    """The picture of which these are all rounds, in order; or NoRound, NoRounds."""
    picture = cells_told(some)
    at = first_unlike(some, rounds(picture))
    if at is not None:
        raise NoRounds(at)
    return picture
