"""Measures of rounds, told from their edges and steps alone."""

from rimsteps.reading import edges_of, walk_of
from rimsteps.rounds import lefts_and_slants, lefts_less_slants

NO_SUMS = (0, 0, 0, 0, 0, 0)


def sums_up_to(x, y):
    """The six sums over the cells of the row y from (1, y) to (x, y).

    For an x below 1 they are such that those up to x less those up to x - 1 are the sums of the cell (x, y), too.
    """
    squares = x * (x + 1) * (2 * x + 1) // 6
    firsts = x * (x + 1) // 2
    return (x, firsts, x * y, squares, firsts * y, x * y * y)


def added(sums, others):
    """The sums of both, one by one."""
    return tuple([one + other for one, other in zip(sums, others)])


def lessened(sums, others):
    """The first sums less the others, one by one."""
    return tuple([one - other for one, other in zip(sums, others)])


def sums_within(one):
    """How many cells lie within the rim, and their sums of x, y, xx, xy, yy; of a hole's round with the other sign."""
    sums = NO_SUMS
    for x, y, way in edges_of(one):
        if way == 1:
            sums = added(sums, sums_up_to(x, y))
        elif way == 3:
            sums = lessened(sums, sums_up_to(x - 1, y))
    return sums


def sums_of(some):
    """The sums within all of the rounds, added up."""
    sums = NO_SUMS
    for one in some:
        sums = added(sums, sums_within(one))
    return sums


def lengths(one):
    """How many edges, left turns, straight steps and slant steps the round has."""
    walk = walk_of(one)
    lefts, slants = lefts_and_slants(walk)
    return (len(walk), lefts, len(walk) - lefts - slants, slants)


def box(one):
    """The least x and y and the greatest x and y of the cells of the round's edges."""
    return box_of([one])


def box_of(some):
    """The box of all of the rounds; None of no rounds."""
    edges = [edge for one in some for edge in edges_of(one)]
    if not edges:
        return None
    xs = [x for x, y, way in edges]
    ys = [y for x, y, way in edges]
    return (min(xs), min(ys), max(xs), max(ys))


def pieces_less_holes(some):
    """How many rims more than hole's rounds these are, told by their turns."""
    return sum([lefts_less_slants(walk_of(one)) for one in some]) // 4


def fraction(top, bottom):
    """The fraction of top and bottom, this from 1 on, that no number above 1 divides."""
    divisor = bottom
    rest = abs(top)
    while rest > 0:
        divisor, rest = rest, divisor % rest
    return (top // divisor, bottom // divisor)


def middle(some):
    """The middle of the cells of the picture with these rounds, as two fractions; None of no rounds."""
    if not some:
        return None
    many, x, y, xx, xy, yy = sums_of(some)
    return (fraction(x, many), fraction(y, many))


def spread(some):
    """How far the cells of the picture with these rounds lie apart: three numbers that stay when it is moved."""
    many, x, y, xx, xy, yy = sums_of(some)
    return (many * xx - x * x, many * xy - x * y, many * yy - y * y)
