"""Which round lies in which."""

from rimsteps.back import uprights
from rimsteps.reading import edges_of


def lies_within(places, x, y):
    """Whether the cell lies within the round of these uprights: on the way to it one comes in once more than out."""
    passed = [place for place in places.get(y, []) if place <= x]
    return len(passed) % 2 == 1


def holders_of(some, lines, at):
    """The indexes of all other rounds within which the begin cell of this one lies."""
    sort, x, y, row = some[at]
    return [other for other, places in enumerate(lines) if other != at and lies_within(places, x, y)]


def around(some):
    """For each of a picture's rounds the index of the one in which it lies, None where there is none."""
    lines = [uprights(edges_of(one)) for one in some]
    holders = [holders_of(some, lines, at) for at in range(len(some))]
    # Of those around a round each lies within the next greater one: the nearest is the one that has most around it.
    return [max(held, key=lambda other: len(holders[other]), default=None) for held in holders]
