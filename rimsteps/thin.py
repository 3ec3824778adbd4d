"""Rounds thinned to few corners."""

from rimsteps.thinlooks import can_leave_out, holds, leavable, spots_of


def left_out(thinning, index, spot):
    """The thinning without this corner of the round of this index."""
    return [[other for other in corners if (at, other) != (index, spot)] for at, corners in enumerate(thinning)]


def thinned(some, bound):
    """A thinning of the rounds that holds by the bound, and of which no corner alone can be left out."""
    thinning = [list(range(len(spots_of(one)))) for one in some]
    free = leavable(some, bound, thinning)
    while free:
        for index, spot in free:
            # A corner left out ahead of this one may have made it one that is needed.
            if can_leave_out(some, bound, thinning, index, spot):
                thinning = left_out(thinning, index, spot)
        free = leavable(some, bound, thinning)
    return thinning


def fewest(one, bound):
    """Of all corners of the round that hold by the bound those with the fewest, of these the least list."""
    many = len(spots_of(one))
    tried = [[0]]
    # The lists of one length are tried in order; all spots, the last of all, hold.
    while True:
        for corners in tried:
            if holds([one], bound, [corners]):
                return corners
        tried = [corners + [spot] for corners in tried for spot in range(corners[-1] + 1, many)]
