"""Rounds that are handed in: their rows walked, and refused where no picture has such a round.

A walk is, as in rimsteps.rounds, a list of pairs, each an edge and the step behind it (None: a left turn).
"""

from rimsteps.cells import gone
from rimsteps.edges import edge_behind, gap_beside, is_slant, slant_step, straight_step
from rimsteps.errors import NoRound
from rimsteps.rounds import BEGIN_WAYS, begin_of, lefts_less_slants

# How many left turns more than slant steps a round of each sort has.
MORE_LEFTS = {"rim": 4, "hole": -4}


def begin_edge(one):
    """The edge at which the walk of this round begins."""
    sort, x, y, row = one
    return (x, y, BEGIN_WAYS[sort])


def way_for(step):
    """The one way on which a walker can go this step, as the straight one or as the slant one."""
    return (step + 1) // 2 % 4


def deeds_along(begin_way, row):
    """The steps of the row, and ahead of each and behind the last the fewest left turns (None) that they need."""
    way = begin_way
    deeds = []
    for step in row:
        deeds.extend([None] * ((way_for(step) - way) % 4))
        deeds.append(step)
        way = (way_for(step) - step % 2) % 4
    # Without a step the walker has to turn round on its cell, though it goes the way of the begin already.
    lefts = (begin_way - way) % 4 if row else 4
    return deeds + [None] * lefts


def walk_by(begin, deeds):
    """The walk from this edge on by these steps and left turns (None)."""
    walk = []
    edge = begin
    for deed in deeds:
        walk.append((edge, deed))
        edge = edge_behind(edge, deed)
    return walk


def walk_along(begin, row):
    """The walk from this edge on by the steps of the row, till it goes the way of the begin again."""
    return walk_by(begin, deeds_along(begin[2], row))


def seen_between(edge, step):
    """What is seen from this edge to the one behind it: pairs of a cell and whether it is one of the picture."""
    x, y, way = edge
    behind = edge_behind(edge, step)
    seen = [((x, y), True), (gap_beside(edge), False), (behind[:2], True), (gap_beside(behind), False)]
    if not is_slant(step):
        seen.append((gone(x, y, slant_step(way)), False))
    if step is None:
        seen.append((gone(x, y, straight_step(way)), False))
    return seen


def gainsaid_at(walk):
    """How many steps were gone ahead of that in whose walking a cell was seen as a gap, too; None where none was."""
    known = {}
    steps_gone = 0
    for edge, step in walk:
        for cell, inside in seen_between(edge, step):
            if known.setdefault(cell, inside) != inside:
                return steps_gone
        if step is not None:
            steps_gone += 1
    return None


def comes_back(walk):
    """Whether the walk ends at the edge at which it begins."""
    edge, step = walk[-1]
    return edge_behind(edge, step) == walk[0][0]


def is_closed(walk, sort):
    """Whether the walk comes back to its begin, and has turned as often as a round of this sort."""
    return comes_back(walk) and lefts_less_slants(walk) == MORE_LEFTS[sort]


def walk_of(one):
    """The walk of this round; or NoRound."""
    sort, x, y, row = one
    begin = begin_edge(one)
    walk = walk_along(begin, row)
    at = gainsaid_at(walk)
    if at is not None:
        raise NoRound(at)
    if not is_closed(walk, sort) or begin_of(walk, sort) != begin:
        raise NoRound(len(row))
    return walk


def ask_round(one):
    """True where some picture has this round; else NoRound."""
    walk_of(one)
    return True


def edges_of(one):
    """The edges of the round in the order of its walk, the begin first; or NoRound."""
    return [edge for edge, step in walk_of(one)]


def is_whole(thing):
    """Whether this is a whole number: no truth is one."""
    return isinstance(thing, int) and not isinstance(thing, bool)


def is_row(thing):
    """Whether this is a row of steps."""
    return isinstance(thing, tuple) and all([is_whole(step) and 0 <= step <= 7 for step in thing])


def has_form(thing):
    """Whether this is made as a round is, be it refused or not."""
    if not isinstance(thing, tuple) or len(thing) != 4:
        return False
    sort, x, y, row = thing
    return isinstance(sort, str) and sort in BEGIN_WAYS and is_whole(x) and is_whole(y) and is_row(row)


def is_round(thing):
    """Whether this, whatever it is, is a round of some picture."""
    if not has_form(thing):
        return False
    try:
        return ask_round(thing)
    except NoRound:
        return False
