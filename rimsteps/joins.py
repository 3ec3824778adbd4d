"""Rounds of pictures joined and cut, and of a picture to which a cell is put or from which one is taken."""

from rimsteps.around import lies_within
from rimsteps.back import picture_of, uprights
from rimsteps.cells import cell_order, cell_table
from rimsteps.edges import edge_facing
from rimsteps.errors import NoCell, Twice
from rimsteps.reading import edges_of
from rimsteps.rounds import rounds, rounds_along


def cells_less(cells, others):
    """The cells that are none of the others."""
    table = cell_table(others)
    return [cell for cell in cells if cell not in table]


def rounds_of_both(cells, others):
    """The rounds of the picture with all these cells, none of which is in both lists."""
    return rounds(sorted(cells + others, key=cell_order))


def joined(some, others):
    """The rounds of the picture with the cells of either picture."""
    cells, more = picture_of(some), picture_of(others)
    return rounds_of_both(cells, cells_less(more, cells))


def common(some, others):
    """The rounds of the picture with the cells of both pictures."""
    table = cell_table(picture_of(others))
    return rounds([cell for cell in picture_of(some) if cell in table])


def without(some, others):
    """The rounds of the picture with the cells of the first picture that are none of the second one."""
    return rounds(cells_less(picture_of(some), picture_of(others)))


def apart(some, others):
    """The rounds of the picture with the cells of just one of the pictures."""
    cells, more = picture_of(some), picture_of(others)
    return rounds_of_both(cells_less(cells, more), cells_less(more, cells))


def edges_of_all(some):
    """The edges of all of the rounds."""
    return [edge for one in some for edge in edges_of(one)]


def is_cell(edges, x, y):
    """Whether this is a cell of the picture with these edges."""
    return lies_within(uprights(edges), x, y)


def edges_changed(edges, x, y, inside):
    """The edges of the picture when the cell (x, y), a gap till now, becomes a cell, or the other way where not inside.

    Such edges go by the four cells beside it alone, whatever lies farther off.
    """
    kept = {edge: True for edge in edges}
    for way in range(4):
        edge = (x, y, way)
        old, new = (edge_facing(edge), edge) if inside else (edge, edge_facing(edge))
        if old in kept:
            del kept[old]
        else:
            kept[new] = True
    return list(kept)


def rounds_changed(some, edges):
    """The rounds of the picture with these edges, those of the others that are no more, and those that are new."""
    told = rounds_along(cell_table([edge[:2] for edge in edges]), edges)
    return (told, [one for one in some if one not in told], [one for one in told if one not in some])


def put(some, x, y):
    """The rounds with the cell (x, y) put to the picture, those gone and those come; or Twice."""
    edges = edges_of_all(some)
    if is_cell(edges, x, y):
        raise Twice()
    return rounds_changed(some, edges_changed(edges, x, y, True))


def taken(some, x, y):
    """The rounds with the cell (x, y) taken from the picture, those gone and those come; or NoCell."""
    edges = edges_of_all(some)
    if not is_cell(edges, x, y):
        raise NoCell()
    return rounds_changed(some, edges_changed(edges, x, y, False))
