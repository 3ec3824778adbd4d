"""Pictures drawn as texts, and read from them."""

from rimsteps.cells import MOST_CELLS, ask_picture, cell_table
from rimsteps.errors import NoText, TooWide
from rimsteps.texts import read_place

# The most rows of signs, and the most signs in one.
MOST_SIGNS = 60


def show_drawn(picture):
    """The picture drawn: its least x and y, and a row of signs for each y; or NoPicture, TooWide."""
    ask_picture(picture)
    if not picture:
        return ""
    xs = [x for x, y in picture]
    left, right, low, high = min(xs), max(xs), picture[0][1], picture[-1][1]
    if right - left >= MOST_SIGNS or high - low >= MOST_SIGNS:
        raise TooWide()
    table = cell_table(picture)
    rows = [f"{left} {low}"]
    for y in reversed(range(low, high + 1)):
        rows.append("".join(["#" if (x, y) in table else "." for x in range(left, right + 1)]))
    return "\n".join(rows)


def is_sign_row(row, first):
    """Whether this can be a row of signs, first being the first one."""
    return len(row) == len(first) and len(row) <= MOST_SIGNS and row.count("#") + row.count(".") == len(row)


def ask_sign_rows(rows):
    """NoText where a row behind the first is no row of signs, is one too many, or has a cell too many."""
    cells = 0
    for at in range(1, len(rows)):
        cells += rows[at].count("#")
        if not is_sign_row(rows[at], rows[1]) or at > MOST_SIGNS or cells > MOST_CELLS:
            raise NoText(at, 0)


def is_tight(rows):
    """Whether there are rows of signs, with a cell in the first, the last, at the left end and at the right end."""
    if not rows:
        return False
    firsts = "".join([row[:1] for row in rows])
    lasts = "".join([row[-1:] for row in rows])
    return all(["#" in signs for signs in (rows[0], rows[-1], firsts, lasts)])


def read_drawn(text):
    """The picture that is drawn so; or NoText."""
    if text == "":
        return []
    rows = text.split("\n")
    left, low = read_place(rows[0])
    ask_sign_rows(rows)
    if not is_tight(rows[1:]):
        raise NoText(len(rows), 0)
    cells = []
    for up, row in enumerate(rows[:0:-1]):
        cells.extend([(left + right, low + up) for right, sign in enumerate(row) if sign == "#"])
    return cells
