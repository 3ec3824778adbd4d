"""Corners of rounds, and whether they do: near by a bound, and with no two sides that cross.

Spots are the cells of a round's spots, a list: spots[0] is its begin cell, spots[i] the one behind i steps.
A side is a tuple of two cells.
"""

from rimsteps.cells import gone
from rimsteps.reading import is_whole


def along(start, one, other):
    """The inner product of the ways from the start to two cells: above 0 where they lead to the same half."""
    return (one[0] - start[0]) * (other[0] - start[0]) + (one[1] - start[1]) * (other[1] - start[1])


def across(start, one, other):
    """Above 0 where, seen from the start, the other cell lies at the left of the one, below 0 at the right."""
    return (one[0] - start[0]) * (other[1] - start[1]) - (one[1] - start[1]) * (other[0] - start[0])


def is_close(cell, side, bound):
    """Whether the square of the distance of the cell from the side is at most the bound."""
    start, end = side
    # Where the side has no length, or the cell lies off beyond one of its ends, this end is the nearest point.
    if along(start, end, cell) <= 0:
        return along(start, cell, cell) <= bound
    if along(end, start, cell) <= 0:
        return along(end, cell, cell) <= bound
    return across(start, end, cell) ** 2 <= bound * along(start, end, end)


def do_part(side, one, other):
    """Whether the line of the side goes between the two cells, through neither of them."""
    start, end = side
    return across(start, end, one) * across(start, end, other) < 0


def do_cross(one, other):
    """Whether the sides have just one point in common, and this is an end of neither."""
    return do_part(one, other[0], other[1]) and do_part(other, one[0], one[1])


def spots_of(one):
    """The cells of the spots of the round."""
    sort, x, y, row = one
    spots = [(x, y)]
    # The last step leads back to the begin.
    for step in row[:-1]:
        x, y = gone(x, y, step)
        spots.append((x, y))
    return spots


def ends_of(spots, corners):
    """Pairs of each corner and the next one; behind the last one comes the number of the spots, for spot 0 again."""
    return list(zip(corners, corners[1:] + [len(spots)]))


def side_between(spots, start, end):
    """The side from one corner to the next one."""
    return (spots[start], spots[end % len(spots)])


def is_stretch_near(spots, bound, start, end):
    """Whether all spots between these two corners, next to one another, are near to the side between them."""
    side = side_between(spots, start, end)
    return all([is_close(cell, side, bound) for cell in spots[start + 1:end]])


def is_near(one, bound, corners):
    """Whether the corners of the round are near by the bound."""
    spots = spots_of(one)
    return all([is_stretch_near(spots, bound, start, end) for start, end in ends_of(spots, corners)])


def sides_of(one, corners):
    """The sides of the corners of the round."""
    spots = spots_of(one)
    return [side_between(spots, start, end) for start, end in ends_of(spots, corners)]


def all_sides(some, thinning):
    """The sides of all corners of the rounds."""
    return [side for one, corners in zip(some, thinning) for side in sides_of(one, corners)]


def are_corners(one, thing):
    """Whether this, whatever it is, is a list of corners of the round."""
    if not isinstance(thing, list) or not thing or not all([is_whole(spot) for spot in thing]):
        return False
    rising = all([thing[at - 1] < thing[at] for at in range(1, len(thing))])
    return rising and thing[0] == 0 and thing[-1] < len(spots_of(one))


def is_thinning(some, thing):
    """Whether this, whatever it is, is a list with corners for each of the rounds."""
    if not isinstance(thing, list) or len(thing) != len(some):
        return False
    return all([are_corners(one, corners) for one, corners in zip(some, thing)])


def holds(some, bound, thing):
    """Whether this, whatever it is, is a thinning of the rounds that holds by the bound."""
    if not is_thinning(some, thing):
        return False
    if not all([is_near(one, bound, corners) for one, corners in zip(some, thing)]):
        return False
    sides = all_sides(some, thing)
    return not any([do_cross(side, other) for at, side in enumerate(sides) for other in sides[:at]])


def can_leave_out(some, bound, thinning, index, spot):
    """Whether a thinning that holds still holds without this corner, which is not 0."""
    spots = spots_of(some[index])
    start = max([corner for corner in thinning[index] if corner < spot])
    end = min([corner for corner in thinning[index] if corner > spot], default=len(spots))
    if not is_stretch_near(spots, bound, start, end):
        return False
    # Only the new side could cross another one; the two that it replaces it doesn't: it shares an end with each.
    side = side_between(spots, start, end)
    return not any([do_cross(side, other) for other in all_sides(some, thinning)])


def leavable(some, bound, thinning):
    """All (index, spot), rising: the corners but 0 each of which alone can be left out so that it still holds."""
    corners = [(index, spot) for index, spots in enumerate(thinning) for spot in spots[1:]]
    return [(index, spot) for index, spot in corners if can_leave_out(some, bound, thinning, index, spot)]
