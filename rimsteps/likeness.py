"""How rounds are alike: mirrored or not, turned and moved."""

from rimsteps.moves import mirrored_all, moved_all, turned_all

# Mirrored or not, and by how many quarters turned, in the order in which they are told.
TURNS = ((False, 0), (False, 1), (False, 2), (False, 3), (True, 0), (True, 1), (True, 2), (True, 3))


def become(some, mirror, quarters):
    """The rounds of the picture, mirrored where mirror is True, then turned by so many quarters."""
    return turned_all(mirrored_all(some) if mirror else some, quarters)


def shift_between(some, others):
    """By how much the rounds are moved to be the others; None where no move does it."""
    if not some and not others:
        return (0, 0)
    if len(some) != len(others):
        return None
    dx, dy = others[0][1] - some[0][1], others[0][2] - some[0][2]
    return (dx, dy) if moved_all(some, dx, dy) == others else None


def alike(one, other):
    """The first (mirrored, quarters, dx, dy) by which the round is the other one; None where there is none."""
    return alike_all([one], [other])


def alike_all(some, others):
    """The first (mirrored, quarters, dx, dy) by which the rounds are all the others; None where there is none."""
    for mirror, quarters in TURNS:
        shift = shift_between(become(some, mirror, quarters), others)
        if shift is not None:
            return (mirror, quarters, shift[0], shift[1])
    return None


def own_turns(some):
    """All (mirrored, quarters) by which, moved by something, the picture with these rounds is itself."""
    return [turn for turn in TURNS if shift_between(become(some, turn[0], turn[1]), some) is not None]
