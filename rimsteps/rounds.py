"""The rounds of a picture, and its holes."""

from rimsteps.cells import STRAIGHT_STEPS, ask_picture, cell_order, cell_table, gone, lot_from
from rimsteps.edges import all_edges, edge_behind, is_slant, step_behind

BEGIN_WAYS = {"rim": 0, "hole": 2}


def walk_from(table, begin):
    """The walk round from this edge on: a list of pairs, each an edge and the step behind it (None: a left turn)."""
    step = step_behind(table, begin)
    walk = [(begin, step)]
    edge = edge_behind(begin, step)
    while edge != begin:
        step = step_behind(table, edge)
        walk.append((edge, step))
        edge = edge_behind(edge, step)
    return walk


def lefts_and_slants(walk):
    """How many left turns and how many slant steps this walk has."""
    lefts = len([step for edge, step in walk if step is None])
    slants = len([step for edge, step in walk if is_slant(step)])
    return (lefts, slants)


def lefts_less_slants(walk):
    """How many left turns more than slant steps this walk has."""
    lefts, slants = lefts_and_slants(walk)
    return lefts - slants


def sort_of(walk):
    """Of which sort the round of this walk is: a rim has more left turns than slant steps, a hole's round fewer."""
    return "rim" if lefts_less_slants(walk) > 0 else "hole"


def begin_of(walk, sort):
    """The edge of this walk at which a round of this sort begins."""
    return min([edge for edge, step in walk if edge[2] == BEGIN_WAYS[sort]], key=cell_order)


def round_of(walk):
    """The round of this walk, whichever of its edges the walk begins at."""
    sort = sort_of(walk)
    begin = begin_of(walk, sort)
    at = [edge for edge, step in walk].index(begin)
    row = tuple([step for edge, step in walk[at:] + walk[:at] if step is not None])
    return (sort, begin[0], begin[1], row)


def round_order(one):
    """What to sort rounds by: their begin cells, of one begin cell the rim first."""
    sort, x, y, row = one
    return (y, x, sort == "hole")


def rounds_along(table, edges):
    """The rounds into which these edges, all of a picture's, fall, in order.

    The table needs no other cells than those of the edges: a walker looks at cells alone that lie beside a gap.
    """
    walked = {}
    told = []
    for begin in edges:
        if begin not in walked:
            walk = walk_from(table, begin)
            for edge, step in walk:
                walked[edge] = True
            told.append(round_of(walk))
    return sorted(told, key=round_order)


def rounds(picture):
    """The rounds of the picture, in order; or NoPicture."""
    ask_picture(picture)
    return rounds_along(cell_table(picture), all_edges(picture))


def holes(picture):
    """The holes of the picture, each a list of gaps in order, by their first gaps; or NoPicture."""
    # A hole's first gap lies above the begin cell of its round, so the holes come in the order of their rounds.
    # The rounds lead to the holes however far apart the cells lie, and never to the outside, which has no end.
    firsts = [gone(x, y, 2) for sort, x, y, row in rounds(picture) if sort == "hole"]
    table = cell_table(picture)
    return [lot_from(first, STRAIGHT_STEPS, table, False) for first in firsts]
