"""Names of rounds: whatever their place, and whatever their place and turn."""

from rimsteps.moves import mirrored, turned


def least_beginning(row):
    """The least index from which the row, gone round, is the least tuple; 0 of ()."""
    if not row:
        return 0
    gone_round = [row[at:] + row[:at] for at in range(len(row))]
    return gone_round.index(min(gone_round))


def name(one):
    """The sort and the row, begun at its least beginning: that of all rounds that are this one moved."""
    sort, x, y, row = one
    at = least_beginning(row)
    return (sort, row[at:] + row[:at])


def shape(one):
    """The least name of the round and its mirrored one, turned: that of all that are it mirrored, turned and moved."""
    return min([name(turned(other, quarters)) for other in (one, mirrored(one)) for quarters in range(4)])
