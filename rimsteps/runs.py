"""Rows told shorter: by runs of one step, and by turns from step to step."""


def runs_of(row):
    """The runs of the row: tuples (step, times), no two neighbours with one step."""
    runs = []
    for step in row:
        if runs and runs[-1][0] == step:
            runs[-1] = (step, runs[-1][1] + 1)
        else:
            runs.append((step, 1))
    return runs


def row_of_runs(runs):
    """The row that has these runs."""
    return tuple([step for step, times in runs for again in range(times)])


def turn_between(step, other):
    """By how much the other step turns from the one, from -3 to 4."""
    return (other - step + 3) % 8 - 3


def turns_of(row):
    """The first step, None of (), and the list of the turns from each step to the next one."""
    if not row:
        return (None, [])
    return (row[0], [turn_between(row[at - 1], row[at]) for at in range(1, len(row))])


def row_of_turns(first, some):
    """The row that has this first step and these turns."""
    if first is None:
        return ()
    row = [first]
    for turn in some:
        row.append((row[-1] + turn) % 8)
    return tuple(row)
