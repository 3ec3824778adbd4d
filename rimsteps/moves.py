"""Rounds moved, turned, mirrored and made greater, without a look at any cell.

A walk is, as in rimsteps.rounds, a list of pairs, each an edge and the step behind it (None: a left turn).
"""

from rimsteps.edges import straight_step
from rimsteps.reading import walk_by, walk_of
from rimsteps.rounds import round_of, round_order

# For each way: at which side of its cell, by x and by y, the walker comes to the edge (0 the lesser, 1 the greater).
ENTRIES = ((0, 0), (1, 0), (1, 1), (0, 1))


def in_order(some):
    """The rounds as they stand in the list of their picture."""
    return sorted(some, key=round_order)


def moved(one, dx, dy):
    """The round of the picture moved by (dx, dy)."""
    sort, x, y, row = one
    return (sort, x + dx, y + dy, row)


def moved_all(some, dx, dy):
    """The rounds of the picture moved by (dx, dy)."""
    return in_order([moved(one, dx, dy) for one in some])


def quarter_edge(edge):
    """The edge turned by a quarter."""
    x, y, way = edge
    return (-y, x, (way + 1) % 4)


def quarter_step(step):
    """The step turned by a quarter; a left turn stays one."""
    return None if step is None else (step + 2) % 8


def turned(one, quarters):
    """The round of the picture turned by so many quarters."""
    walk = walk_of(one)
    for quarter in range(quarters % 4):
        walk = [(quarter_edge(edge), quarter_step(step)) for edge, step in walk]
    return round_of(walk)


def turned_all(some, quarters):
    """The rounds of the picture turned by so many quarters."""
    return in_order([turned(one, quarters) for one in some])


def mirror_edge(edge):
    """The edge mirrored, and gone the other way, so that its cell is at the left again."""
    x, y, way = edge
    return (-x, y, (4 - way) % 4)


def mirror_step(step):
    """The step mirrored, and gone the other way; a left turn stays one."""
    return None if step is None else (8 - step) % 8


def mirrored(one):
    """The round of the mirrored picture."""
    walk = walk_of(one)
    edges = [edge for edge, step in walk]
    # Gone the other way a step leads from the edge behind it to the one ahead of it.
    behind = edges[1:] + edges[:1]
    mirror = [(mirror_edge(other), mirror_step(step)) for other, (edge, step) in zip(behind, walk)]
    return round_of(mirror[::-1])


def mirrored_all(some):
    """The rounds of the mirrored picture."""
    return in_order([mirrored(one) for one in some])


def first_part(edge, times):
    """The first of the edges into which this edge falls where it is made times as great."""
    x, y, way = edge
    right, up = ENTRIES[way]
    return (times * x + (times - 1) * right, times * y + (times - 1) * up, way)


def greater(one, times):
    """The round of the picture made times as great."""
    walk = walk_of(one)
    deeds = []
    for edge, step in walk:
        deeds.extend([straight_step(edge[2])] * (times - 1))
        deeds.append(step)
    return round_of(walk_by(first_part(walk[0][0], times), deeds))


def greater_all(some, times):
    """The rounds of the picture made times as great."""
    return in_order([greater(one, times) for one in some])
