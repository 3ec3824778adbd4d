"""The edges of a picture, and which edge comes behind which.

An edge is a tuple (x, y, way). A table is a dict whose keys are the cells of a picture.
"""

from rimsteps.cells import cell_table, gone


def gap_beside(edge):
    """The cell at the walker's right, a gap where this is an edge of the picture."""
    x, y, way = edge
    return gone(x, y, (2 * way + 6) % 8)


def edge_facing(edge):
    """The edge of the cell at the walker's right, on the same line, that goes the other way."""
    x, y = gap_beside(edge)
    return (x, y, (edge[2] + 2) % 4)


def all_edges(picture):
    """All edges of the picture, by their cells in order, of one cell by their ways."""
    table = cell_table(picture)
    edges = [(x, y, way) for x, y in picture for way in range(4)]
    return [edge for edge in edges if gap_beside(edge) not in table]


def straight_step(way):
    """The step to the cell straight ahead."""
    return 2 * way


def slant_step(way):
    """The step to the cell ahead at the right."""
    return (2 * way + 7) % 8


def step_behind(table, edge):
    """The step that the walker goes from this edge to the one behind it, None where it turns left on its cell."""
    x, y, way = edge
    # The slant step is asked first: the walker keeps to the gap at its right.
    for step in (slant_step(way), straight_step(way)):
        if gone(x, y, step) in table:
            return step
    return None


def is_slant(step):
    """Whether this is a slant step; None, a left turn, is no step."""
    return step is not None and step % 2 == 1


def edge_behind(edge, step):
    """The edge to which the walker comes from this one by such a step, or by a left turn where it is None."""
    x, y, way = edge
    if step is None:
        return (x, y, (way + 1) % 4)
    new_x, new_y = gone(x, y, step)
    if is_slant(step):
        return (new_x, new_y, (way + 3) % 4)
    return (new_x, new_y, way)
