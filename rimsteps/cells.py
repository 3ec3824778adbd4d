"""Cells, pictures, the eight steps, and the pieces of a picture."""

from rimsteps.errors import NoPicture

MOVES = ((1, 0), (1, 1), (0, 1), (-1, 1), (-1, 0), (-1, -1), (0, -1), (1, -1))
ALL_STEPS = (0, 1, 2, 3, 4, 5, 6, 7)
STRAIGHT_STEPS = (0, 2, 4, 6)
# Of a picture that is read from a drawing, or kept by a desk.
MOST_CELLS = 120


def cell_order(cell):
    """What to sort cells by; an edge, which begins with its cell, is sorted by it too."""
    return (cell[1], cell[0])


def ask_picture(picture):
    """True where each cell stands behind the one ahead of it; else NoPicture."""
    for at in range(1, len(picture)):
        if cell_order(picture[at]) <= cell_order(picture[at - 1]):
            raise NoPicture(at)
    return True


def gone(x, y, step):
    """The cell to which the step leads from the cell (x, y)."""
    right, up = MOVES[step]
    return (x + right, y + up)


def cell_table(picture):
    """The cells of the picture as the keys of a dict, so that each is found at once."""
    return {cell: True for cell in picture}


def lot_from(first, steps, table, inside):
    """All that one comes to from the first by these steps, in order: cells of the table, or gaps where inside is False.

    Of gaps the first must lie in a hole: the gaps outside have no end.
    """
    found = {first: True}
    ahead = [first]
    while ahead:
        x, y = ahead.pop()
        for step in steps:
            cell = gone(x, y, step)
            if (cell in table) == inside and cell not in found:
                found[cell] = True
                ahead.append(cell)
    return sorted(list(found), key=cell_order)


def pieces(picture):
    """The pieces of the picture, each a list of cells in order, by their first cells; or NoPicture."""
    ask_picture(picture)
    table = cell_table(picture)
    seen = {}
    told = []
    # The picture is in order, so a piece is first met at its first cell.
    for first in picture:
        if first not in seen:
            piece = lot_from(first, ALL_STEPS, table, True)
            for cell in piece:
                seen[cell] = True
            told.append(piece)
    return told
