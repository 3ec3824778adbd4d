"""Rounds turned by an eighth, where there are such."""

from rimsteps.reading import gainsaid_at, is_closed, walk_along, way_for
from rimsteps.rounds import round_of


def eighth(one):
    """The round whose steps are those of this one, each the next one, from its begin cell on; None without one."""
    sort, x, y, row = one
    if not row:
        return None
    further = tuple([(step + 1) % 8 for step in row])
    # Begun at the way of its first step, so that the turns ahead of that step are those behind the last one.
    walk = walk_along((x, y, way_for(further[0])), further)
    if gainsaid_at(walk) is not None or not is_closed(walk, sort):
        return None
    return round_of(walk)
