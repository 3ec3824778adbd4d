"""Points 25 and 26."""

import itertools
import unittest

from rimsteps.moves import mirrored, moved, turned
from rimsteps.names import least_beginning, name, shape
from rimsteps.reading import edges_of
from rimsteps.rounds import rounds
from tests.helper import (
    FAR, all_pictures, are_one_row_gone_round, great_rounds, mirrored_edges, moved_edges, some_pictures, turned_edges,
)

RIM = ("rim", 0, 0, (0, 0, 2, 5, 4))


def slow_beginning(row):
    best = 0
    for at in range(len(row)):
        if row[at:] + row[:at] < row[best:] + row[:best]:
            best = at
    return best


def at_nought(edges):
    """The edges moved so that their least x and their least y are 0."""
    return frozenset(moved_edges(edges, -min(edge[0] for edge in edges), -min(edge[1] for edge in edges)))


def eight_kinds(edges):
    """The edges moved to nought, mirrored or not, turned by each number of quarters."""
    told = []
    for kind in (set(edges), mirrored_edges(edges)):
        for quarters in range(4):
            told.append(at_nought(kind))
            kind = turned_edges(kind)
    return told


def many_rounds():
    """Rounds of either sort; of the small ones each at several places."""
    told = []
    for picture in itertools.chain(all_pictures(4, 3), some_pictures(5, 5, 200)):
        told += rounds(picture)
    return sorted(set(told))


class LeastBeginning(unittest.TestCase):
    def test_known_ones(self):
        for row, at in [((), 0), ((7,), 0), ((0, 1), 0), ((1, 0), 1), ((2, 4, 6, 0), 3), ((3, 1, 7, 5), 1),
                        ((0, 1, 0, 0), 2), ((0, 0, 1), 0), ((1, 0, 0), 1), ((0, 1, 0), 2), ((5, 3, 5, 3, 4), 3)]:
            self.assertEqual(least_beginning(row), at, row)

    def test_a_part_again_and_again_the_least_index(self):
        self.assertEqual(least_beginning((4,) * 10), 0)
        self.assertEqual(least_beginning((1, 0) * 5), 1)
        self.assertEqual(least_beginning((2, 1, 0) * 80), 2)
        self.assertEqual(least_beginning((0, 1) * 120), 0)
        self.assertEqual(least_beginning((7, 0, 0, 3) * 60), 1)

    def test_each_short_row(self):
        for many in range(8):
            for row in itertools.product((0, 3, 7), repeat=many):
                self.assertEqual(least_beginning(row), slow_beginning(row))
        for row in itertools.product(range(8), repeat=4):
            self.assertEqual(least_beginning(row), slow_beginning(row))

    def test_240_steps_alike_but_for_one(self):
        for at in (0, 1, 119, 238, 239):
            row = [4] * 240
            row[at] = 3
            self.assertEqual(least_beginning(tuple(row)), at)
            row[at] = 5
            self.assertEqual(least_beginning(tuple(row)), (at + 1) % 240)

    def test_the_row_stays(self):
        row = (2, 4, 6, 0)
        least_beginning(row)
        self.assertEqual(row, (2, 4, 6, 0))


class Names(unittest.TestCase):
    def test_known_ones(self):
        self.assertEqual(name(("rim", 5, -3, ())), ("rim", ()))
        self.assertEqual(name(RIM), ("rim", (0, 0, 2, 5, 4)))
        self.assertEqual(name(("hole", 1, 0, (3, 1, 7, 5))), ("hole", (1, 7, 5, 3)))
        self.assertEqual(name(("rim", 0, 0, (2, 2, 4, 7, 6))), ("rim", (2, 2, 4, 7, 6)))
        self.assertEqual(name(("rim", 0, -2, (0, 3, 2, 6, 6))), ("rim", (0, 3, 2, 6, 6)))
        self.assertEqual(name(("rim", 1, 0, (3, 7))), ("rim", (3, 7)))
        self.assertEqual(name(("rim", 0, 0, (1, 7, 3, 5))), ("rim", (1, 7, 3, 5)))
        self.assertEqual(name(("hole", 2, 0, (3, 2, 1, 0, 7, 6, 5, 4))), ("hole", (0, 7, 6, 5, 4, 3, 2, 1)))

    def test_the_kinds_of_what_is_told(self):
        for told in (name(RIM), shape(RIM)):
            self.assertEqual([type(told), type(told[0]), type(told[1])], [tuple, str, tuple])

    def test_the_row_begun_at_its_least_beginning(self):
        for one in many_rounds():
            sort, row = name(one)
            self.assertEqual(sort, one[0])
            self.assertTrue(are_one_row_gone_round(row, one[3]))
            self.assertEqual(row, min([one[3][at:] + one[3][:at] for at in range(len(one[3]))], default=()))

    def test_no_two_beginnings_of_a_round_s_row_are_alike(self):
        for one in many_rounds():
            row = one[3]
            self.assertEqual(len({row[at:] + row[:at] for at in range(len(row))}), len(row))

    def test_one_name_just_where_one_is_the_other_moved(self):
        names, places = {}, {}
        for one in many_rounds():
            place = (one[0], at_nought(edges_of(one)))
            self.assertEqual(names.setdefault(place, name(one)), name(one))
            self.assertEqual(places.setdefault(name(one), place), place)
        self.assertGreater(len(names), 300)

    def test_moved_it_keeps_its_name(self):
        for one in great_rounds() + [RIM]:
            self.assertEqual(name(moved(one, FAR, -FAR)), name(one))


class Shapes(unittest.TestCase):
    def test_known_ones(self):
        self.assertEqual(shape(("rim", 5, -3, ())), ("rim", ()))
        self.assertEqual(shape(("rim", 0, 0, (2, 6))), ("rim", (0, 4)))
        self.assertEqual(shape(("rim", 1, 0, (3, 7))), ("rim", (1, 5)))
        self.assertEqual(shape(("hole", 1, 0, (3, 1, 7, 5))), ("hole", (1, 7, 5, 3)))
        self.assertEqual(shape(RIM), ("rim", (0, 0, 2, 5, 4)))
        # Mirrored it has a row that is less than all of its own.
        self.assertEqual(shape(("rim", 0, 0, (0, 0, 4, 3, 6))), ("rim", (0, 0, 2, 5, 4)))

    def test_the_least_of_eight_names(self):
        for one in many_rounds():
            names = []
            for row in (one[3], tuple((8 - step) % 8 for step in one[3][::-1])):
                for quarters in range(4):
                    steps = tuple((step + 2 * quarters) % 8 for step in row)
                    at = slow_beginning(steps)
                    names.append((one[0], steps[at:] + steps[:at]))
            self.assertEqual(shape(one), min(names))

    def test_turned_mirrored_and_moved_it_keeps_its_shape(self):
        for one in great_rounds()[2:] + [RIM, ("hole", 1, 0, (3, 1, 0, 7, 5, 4))]:
            told = shape(one)
            for other in (one, mirrored(one)):
                for quarters in (1, 2, 3):
                    self.assertEqual(shape(moved(turned(other, quarters), -3, FAR)), told)

    def test_one_shape_just_where_one_is_the_other_mirrored_or_not_turned_and_moved(self):
        shapes, kinds = {}, {}
        for one in many_rounds():
            kind = (one[0], min(eight_kinds(edges_of(one)), key=sorted))
            told = shape(one)
            self.assertEqual(shapes.setdefault(kind, told), told)
            self.assertEqual(kinds.setdefault(told, kind), kind)
        self.assertGreater(len(shapes), 100)

    def test_some_are_like_their_mirrored_one_alone(self):
        # Not by turns: so the mirrored one is looked at, too.
        hook, other = RIM, mirrored(RIM)
        self.assertNotIn(name(other), [name(turned(hook, quarters)) for quarters in range(4)])
        self.assertEqual(shape(hook), shape(other))


if __name__ == "__main__":
    unittest.main()
