"""What several tests need: drawings, pictures, lists of rounds, and the document's words told slowly.

What is told slowly here is told without the program.
"""

import copy
import itertools
import time
from contextlib import contextmanager
from fractions import Fraction

from rimsteps.errors import NoCell, NoPicture, NoRound, NoRounds, NoRow, NoText, TooWide, Twice
from rimsteps.rounds import rounds

ALL_CLASSES = (NoPicture, NoRound, NoRounds, NoText, Twice, NoCell, TooWide, NoRow)

# By compass: how far right and up each of the steps 0 to 7 leads.
EAST, NORTH_EAST, NORTH, NORTH_WEST = (1, 0), (1, 1), (0, 1), (-1, 1)
WEST, SOUTH_WEST, SOUTH, SOUTH_EAST = (-1, 0), (-1, -1), (0, -1), (1, -1)
COMPASS = [EAST, NORTH_EAST, NORTH, NORTH_WEST, WEST, SOUTH_WEST, SOUTH, SOUTH_EAST]
STRAIGHT = [EAST, NORTH, WEST, SOUTH]

# For each way: the gap at the right, the cell ahead at the right with its step, the one straight ahead with its step.
WAYS = [
    (SOUTH, SOUTH_EAST, 7, EAST, 0),
    (EAST, NORTH_EAST, 1, NORTH, 2),
    (NORTH, NORTH_WEST, 3, WEST, 4),
    (WEST, SOUTH_WEST, 5, SOUTH, 6),
]


def in_order(cells):
    return sorted(cells, key=lambda cell: (cell[1], cell[0]))


def drawn(*rows, x=0, y=0):
    """The picture of a drawing whose last row is the lowest; (x, y) is its corner below at the left."""
    height = len(rows)
    return in_order(
        (x + right, y + height - 1 - down)
        for down, row in enumerate(rows)
        for right, sign in enumerate(row)
        if sign == "#"
    )


def moved(cell, move):
    return (cell[0] + move[0], cell[1] + move[1])


def lots(cells, moves):
    """The greatest lots of cells in which one comes from each to each other by these moves."""
    left = set(cells)
    told = []
    while left:
        lot = set()
        fresh = {left.pop()}
        while fresh:
            lot |= fresh
            fresh = {moved(cell, move) for cell in fresh for move in moves} & left
            left -= fresh
        told.append(in_order(lot))
    return sorted(told, key=lambda lot: (lot[0][1], lot[0][0]))


def slow_pieces(picture):
    return lots(picture, COMPASS)


def slow_holes(picture):
    """All gaps of the box around the picture and one further fall into lots; the one at its corner is outside."""
    if not picture:
        return []
    xs = [x for x, y in picture]
    ys = [y for x, y in picture]
    corner = (min(xs) - 1, min(ys) - 1)
    box = [(x, y) for x in range(corner[0], max(xs) + 2) for y in range(corner[1], max(ys) + 2)]
    cells = set(picture)
    gaps = [cell for cell in box if cell not in cells]
    return [lot for lot in lots(gaps, STRAIGHT) if corner not in lot]


def slow_edges(picture):
    cells = set(picture)
    return {(x, y, way) for x, y in cells for way in range(4) if moved((x, y), WAYS[way][0]) not in cells}


def slow_behind(cells, edge):
    """The edge behind this one, and the step to it, None for a left turn."""
    x, y, way = edge
    beside, right, slant, ahead, straight = WAYS[way]
    if moved((x, y), right) in cells:
        return moved((x, y), right) + ([3, 0, 1, 2][way],), slant
    if moved((x, y), ahead) in cells:
        return moved((x, y), ahead) + (way,), straight
    return (x, y, [1, 2, 3, 0][way]), None


def begin_edge(one):
    sort, x, y, row = one
    return (x, y, {"rim": 0, "hole": 2}[sort])


def slow_walk(picture, begin):
    """The edges from this one till it comes again, and what the walker does behind each."""
    cells = set(picture)
    edges, deeds, edge = [], [], begin
    while not edges or edge != begin:
        edges.append(edge)
        edge, deed = slow_behind(cells, edge)
        deeds.append(deed)
        assert len(edges) <= 4 * len(picture), "the walk never comes back to its begin"
    return edges, deeds


class SlowWalker:
    """Walks a row that is handed in, and keeps what it sees: how many steps it counts to, the cell, "cell" or "gap"."""

    def __init__(self, one):
        sort, x, y, row = one
        self.begin = begin_edge(one)
        self.cell, self.way = (x, y), self.begin[2]
        self.edges, self.seen, self.lefts, self.slants, self.steps = [], [], 0, 0, 1
        self.come()
        for at, step in enumerate(row):
            self.steps = at + 1
            while step not in (WAYS[self.way][2], WAYS[self.way][4]):
                self.turn()
            self.go(step)
        self.steps = len(row) + 1
        for turn in range(4):
            if self.way != self.begin[2] or not row:
                self.turn()

    def see(self, what, move):
        self.seen.append((self.steps, moved(self.cell, move), what))

    def come(self):
        self.edges.append(self.cell + (self.way,))
        self.see("cell", (0, 0))
        self.see("gap", WAYS[self.way][0])

    def turn(self):
        self.see("gap", WAYS[self.way][3])
        self.see("gap", WAYS[self.way][1])
        self.lefts += 1
        self.way = [1, 2, 3, 0][self.way]
        self.come()

    def go(self, step):
        if step in (0, 2, 4, 6):
            self.see("gap", WAYS[self.way][1])
        else:
            self.slants += 1
        self.cell = moved(self.cell, COMPASS[step])
        if step in (1, 3, 5, 7):
            self.way = [3, 0, 1, 2][self.way]
        self.come()


def slow_refusal(one):
    """The number at with which the round is refused, None where it isn't."""
    sort, x, y, row = one
    walker = SlowWalker(one)
    for count in range(1, len(row) + 2):
        cells = {cell for steps, cell, what in walker.seen if steps <= count and what == "cell"}
        gaps = {cell for steps, cell, what in walker.seen if steps <= count and what == "gap"}
        if cells & gaps:
            return count - 1
    begins = [(edge[1], edge[0]) for edge in walker.edges if edge[2] == walker.begin[2]]
    turned = walker.lefts - walker.slants == {"rim": 4, "hole": -4}[sort]
    if walker.cell != (x, y) or not turned or min(begins) != (y, x):
        return len(row)
    return None


def closed_off(lot, moves):
    """The lot, and all cells that can't be reached from outside by these moves without coming to one of the lot."""
    xs = [x for x, y in lot]
    ys = [y for x, y in lot]
    corner = (min(xs) - 1, min(ys) - 1)
    box = {(x, y) for x in range(corner[0], max(xs) + 2) for y in range(corner[1], max(ys) + 2)}
    outside = [lot for lot in lots(box - set(lot), moves) if corner in lot][0]
    return in_order(box - set(outside))


def slow_within(picture, one):
    """The cells within a round of the picture, told from its pieces and holes."""
    sort, x, y, row = one
    if sort == "rim":
        return closed_off([piece for piece in slow_pieces(picture) if (x, y) in piece][0], STRAIGHT)
    return closed_off([hole for hole in slow_holes(picture) if (x, y + 1) in hole][0], COMPASS)


def slow_around(picture, some):
    """For each round the index of the one in which it lies, told from the picture's pieces and holes."""
    pieces, holes = slow_pieces(picture), slow_holes(picture)
    told = []
    for sort, x, y, row in some:
        if sort == "hole":
            lot, others = [piece for piece in pieces if (x, y) in piece], "rim"
        else:
            lot, others = [hole for hole in holes if (x, y - 1) in hole], "hole"
        beside = [(one[1], one[2] + (one[0] == "hole")) for one in some]
        found = [at for at, one in enumerate(some) if lot and one[0] == others and beside[at] in lot[0]]
        told.append(found[0] if found else None)
    return told


def turned_cells(cells, quarters):
    for quarter in range(quarters):
        cells = [(-y, x) for x, y in cells]
    return in_order(cells)


def mirrored_cells(cells):
    return in_order((-x, y) for x, y in cells)


def moved_cells(cells, dx, dy):
    return in_order((x + dx, y + dy) for x, y in cells)


def great_cells(cells, times):
    return in_order((times * x + right, times * y + up) for x, y in cells for right, up in floor(times, times))


def turned_edges(edges):
    """By a quarter: the edge below a cell becomes the one at its right."""
    return {(-y, x, {0: 1, 1: 2, 2: 3, 3: 0}[way]) for x, y, way in edges}


def mirrored_edges(edges):
    """The edge at the right of a cell becomes the one at its left."""
    return {(-x, y, {0: 0, 1: 3, 2: 2, 3: 1}[way]) for x, y, way in edges}


def moved_edges(edges, dx, dy):
    return {(x + dx, y + dy, way) for x, y, way in edges}


def are_one_row_gone_round(row, other):
    return len(row) == len(other) and (not row or any(row[at:] + row[:at] == other for at in range(len(row))))


def slow_spots(one):
    """The cells of the spots of a round: its begin, and the cell behind each step but the last."""
    sort, x, y, row = one
    spots = [(x, y)]
    for step in row:
        spots.append(moved(spots[-1], COMPASS[step]))
    return spots[:len(row)] or spots


def slow_square(cell, side):
    """The square of the distance of the cell from the nearest point of the side, as a fraction."""
    (ax, ay), (bx, by) = side
    length = (bx - ax) ** 2 + (by - ay) ** 2
    part = Fraction(0)
    if length:
        part = Fraction((cell[0] - ax) * (bx - ax) + (cell[1] - ay) * (by - ay), length)
    part = min(max(part, Fraction(0)), Fraction(1))
    nearest = (ax + part * (bx - ax), ay + part * (by - ay))
    return (nearest[0] - cell[0]) ** 2 + (nearest[1] - cell[1]) ** 2


def slow_cross(one, other):
    """Whether the sides cross: the lines meet in one point, and it lies amid both, not at an end."""
    (ax, ay), (bx, by) = one
    (cx, cy), (dx, dy) = other
    ux, uy, vx, vy = bx - ax, by - ay, dx - cx, dy - cy
    both = ux * vy - uy * vx
    if both == 0:
        return False
    first = Fraction((cx - ax) * vy - (cy - ay) * vx, both)
    second = Fraction((cx - ax) * uy - (cy - ay) * ux, both)
    return 0 < first < 1 and 0 < second < 1


def slow_near(one, bound, corners):
    spots = slow_spots(one)
    for at, cell in enumerate(spots):
        if at not in corners:
            ahead = max(corner for corner in corners if corner < at)
            behind = min([corner for corner in corners if corner > at], default=0)
            if slow_square(cell, (spots[ahead], spots[behind])) > bound:
                return False
    return True


def slow_holds(some, bound, thinning):
    """Whether the thinning, a list of corners for each round, holds."""
    sides = []
    for one, corners in zip(some, thinning):
        if not slow_near(one, bound, corners):
            return False
        cells = [slow_spots(one)[corner] for corner in corners]
        sides += [(cell, cells[(at + 1) % len(cells)]) for at, cell in enumerate(cells)]
    return not any(slow_cross(one, other) for one, other in itertools.combinations(sides, 2))


def slow_leavable(some, bound, thinning):
    """Each corner but 0 left out alone."""
    told = []
    for index, corners in enumerate(thinning):
        for spot in corners:
            left = [list(one) for one in thinning]
            left[index].remove(spot)
            if spot != 0 and slow_holds(some, bound, left):
                told.append((index, spot))
    return told


def all_spots(some):
    return [list(range(max(1, len(row)))) for sort, x, y, row in some]


def floor(width, height):
    """All cells of a floor, in order."""
    return [(x, y) for y in range(height) for x in range(width)]


def all_pictures(width, height):
    """Each picture within such a floor."""
    cells = floor(width, height)
    for number in range(2 ** len(cells)):
        yield [cell for at, cell in enumerate(cells) if number >> at & 1]


def some_pictures(width, height, many):
    """So many pictures within such a floor, the same ones each time, of few cells and of many."""
    cells = floor(width, height)
    state = 12345
    for number in range(many):
        share = 1 + number % 9
        picture = []
        for cell in cells:
            state = (state * 6364136223846793005 + 1442695040888963407) % 2 ** 64
            if (state >> 33) % 10 < share:
                picture.append(cell)
        yield picture


def many_small_pictures():
    yield from all_pictures(3, 3)
    yield from all_pictures(4, 3)
    yield from some_pictures(5, 5, 600)
    yield from some_pictures(9, 7, 200)


def square_ring(size, low):
    """The rim cells of a square, its corner below at the left (low, low)."""
    high = low + size - 1
    return [(x + low, y + low) for x, y in floor(size, size) if low in (x + low, y + low) or high in (x + low, y + low)]


def slant_ring(radius):
    """A ring of slant steps alone around (0, 0): 4 * radius cells."""
    span = range(-radius, radius + 1)
    return [(x, y) for y in span for x in span if abs(x) + abs(y) == radius]


FAR = 10 ** 27


def far_cells():
    return [(x * FAR, y * FAR) for y in range(-5, 5) for x in range(-6, 6)]


def chess_floor():
    return [(x, y) for x, y in floor(16, 15) if (x + y) % 2 == 0]


def four_rings():
    """Four square rings one within the other, without their corners."""
    cells = []
    for size in (3, 7, 11, 15):
        low = (15 - size) // 2
        ends = (low, low + size - 1)
        cells += [(x, y) for x, y in square_ring(size, low) if not (x in ends and y in ends)]
    return in_order(cells)


def four_full_rings():
    """The same with their corners: somewhat more than 120 cells."""
    return in_order(cell for size in (3, 7, 11, 15) for cell in square_ring(size, (15 - size) // 2))


def great_pictures():
    """Pictures at the bounds, by names."""
    return {
        "far": far_cells(),
        "floor": floor(12, 10),
        "row": floor(120, 1),
        "chess": chess_floor(),
        "slant": slant_ring(30),
        "rings": four_rings(),
        "full rings": four_full_rings(),
    }


MOST = 10 ** 30 - 1
COMB = [(x, y) for x, y in floor(40, 5) if y == 0 or x % 2 == 0]


def great_rounds():
    """Rounds of 240 steps, and of somewhat fewer."""
    side = 60
    told = [
        ("rim", 0, 0, (0,) * side + (2,) * side + (4,) * side + (6,) * side),
        ("rim", MOST, -MOST, (1,) * side + (3,) * side + (5,) * side + (7,) * side),
        ("hole", -MOST, MOST, (3,) * side + (1,) * side + (7,) * side + (5,) * side),
        ("rim", -FAR, -FAR, (0,) * 120 + (4,) * 120),
        ("rim", -FAR, -FAR, (1,) * 120 + (5,) * 120),
    ]
    return told + rounds(COMB)


def great_lists():
    """Lists of rounds that have 480 steps together, and those of the great pictures, by names."""
    told = {name: rounds(picture) for name, picture in great_pictures().items()}
    told["great ring"] = rounds(slant_ring(60))
    square = great_rounds()[0][3]
    told["two far apart"] = [("rim", 0, 0, square), ("rim", FAR, FAR, square)]
    told["comb"] = rounds(COMB)
    return told


def far_squares():
    """120 rims of 240 steps each, those of one row of them nearer to one another."""
    row = great_rounds()[0][3]
    return [("rim", x * 1000, y * FAR, row) for y in range(10) for x in range(12)]


@contextmanager
def soon(case, seconds=2):
    """Far more than the program needs, far less than a slow way would."""
    begin = time.process_time()
    yield
    case.assertLess(time.process_time() - begin, seconds)


def refused_at(case, deed, thing, kind=NoPicture):
    """The field at of the refusal of this kind with which the deed refuses the thing."""
    with case.assertRaises(kind) as caught:
        deed(thing)
    case.assertIs(type(caught.exception), kind)
    return caught.exception.at


def lists_in(told):
    """All lists in what is told, itself too."""
    found = [told] if isinstance(told, list) else []
    for part in told if isinstance(told, (list, tuple)) else ():
        found += lists_in(part)
    return found


class OwnLists:
    """Point 2 of some deeds, for tests: by words each deed and what is handed in to it."""

    deeds = {}

    def test_what_is_handed_in_stays_as_it_was(self):
        for word, (deed, things) in self.deeds.items():
            with self.subTest(word=word):
                handed = copy.deepcopy(things)
                deed(*handed)
                self.assertEqual(handed, things)

    def test_a_told_list_changed_changes_nothing_told_later(self):
        for word, (deed, things) in self.deeds.items():
            with self.subTest(word=word):
                kept = copy.deepcopy(deed(*things))
                for lists in lists_in(deed(*things)):
                    lists.append("more")
                    lists.reverse()
                self.assertEqual(deed(*things), kept)

    def test_told_lists_are_no_lists_that_were_handed_in(self):
        for word, (deed, things) in self.deeds.items():
            with self.subTest(word=word):
                handed = copy.deepcopy(things)
                told = deed(*handed)
                kept = copy.deepcopy(told)
                for lists in lists_in(handed):
                    lists.clear()
                self.assertEqual(told, kept)

    def test_no_list_is_told_twice_nor_one_that_was_handed_in(self):
        for word, (deed, things) in self.deeds.items():
            with self.subTest(word=word):
                handed = copy.deepcopy(things)
                told = lists_in(deed(*handed)) + lists_in(deed(*handed))
                found = {id(one) for one in told}
                self.assertEqual(len(found), len(told))
                self.assertEqual(found & {id(one) for one in lists_in(handed)}, set())
