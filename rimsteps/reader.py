"""A small reader of rounds: it lets by the rounds of a picture without walking for them."""

from rimsteps.cells import ask_picture, cell_table
from rimsteps.edges import all_edges, gap_beside, step_behind
from rimsteps.reading import is_round, walk_of
from rimsteps.rounds import round_order


def is_edge(table, edge):
    """Whether this is an edge of the picture."""
    return edge[:2] in table and gap_beside(edge) not in table


def goes_along(table, walk):
    """Whether each edge of the walk is one of the picture, and each next one the one behind it."""
    return all([is_edge(table, edge) and step_behind(table, edge) == step for edge, step in walk])


def stand_in_order(some):
    """Whether each of the rounds stands behind the one ahead of it."""
    return all([round_order(some[at - 1]) < round_order(some[at]) for at in range(1, len(some))])


def shows(picture, thing):
    """Whether this, whatever it is, is the list of all rounds of the picture; or NoPicture."""
    ask_picture(picture)
    if not isinstance(thing, list) or not all([is_round(one) for one in thing]):
        return False
    table = cell_table(picture)
    walks = [walk_of(one) for one in thing]
    if not stand_in_order(thing) or not all([goes_along(table, walk) for walk in walks]):
        return False
    # No two of them share an edge, so they are all the picture's where they have as many edges as it has.
    return sum([len(walk) for walk in walks]) == len(all_edges(picture))
