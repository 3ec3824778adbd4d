"""Points 29 and 30."""

import itertools
import unittest

from rimsteps.errors import NoCell, RimError, Twice
from rimsteps.joins import apart, common, joined, put, taken, without
from rimsteps.reading import edges_of
from rimsteps.rounds import rounds
from tests.helper import (
    COMPASS, FAR, MOST, WAYS, all_pictures, drawn, far_cells, floor, great_rounds, in_order, moved, moved_cells,
    slant_ring, some_pictures, square_ring,
)

JOINS = [
    (joined, lambda cells, others: cells | others),
    (common, lambda cells, others: cells & others),
    (without, lambda cells, others: cells - others),
    (apart, lambda cells, others: cells ^ others),
]


def refused(case, deed, some, x, y, kind):
    with case.assertRaises(kind) as caught:
        deed(some, x, y)
    case.assertIs(type(caught.exception), kind)
    case.assertEqual(kind.__bases__, (RimError,))


def is_far(one, x, y):
    """Whether no edge of the round has the cell or one of its eight neighbours as its cell or as its gap."""
    near = {(x, y)} | {moved((x, y), move) for move in COMPASS}
    return not any(edge[:2] in near or moved(edge[:2], WAYS[edge[2]][0]) in near for edge in edges_of(one))


class Joins(unittest.TestCase):
    def check(self, picture, other):
        for cells, others in ((picture, other), (other, picture)):
            for deed, slow in JOINS:
                told = deed(rounds(cells), rounds(others))
                self.assertEqual(told, rounds(in_order(slow(set(cells), set(others)))), deed.__name__)
                self.assertIs(type(told), list)

    def test_known_ones(self):
        one, other = rounds([(0, 0), (1, 0)]), rounds([(1, 0), (2, 0)])
        self.assertEqual(joined(one, other), [("rim", 0, 0, (0, 0, 4, 4))])
        self.assertEqual(common(one, other), [("rim", 1, 0, ())])
        self.assertEqual(without(one, other), [("rim", 0, 0, ())])
        self.assertEqual(without(other, one), [("rim", 2, 0, ())])
        self.assertEqual(apart(one, other), [("rim", 0, 0, ()), ("rim", 2, 0, ())])

    def test_pictures_apart(self):
        self.check(drawn("##", "#."), drawn("###", x=5, y=5))
        self.check(drawn("##", "#."), drawn("###", x=3, y=0))

    def test_touching_by_an_edge(self):
        self.check(floor(2, 2), moved_cells(floor(2, 2), 2, 0))
        self.check(floor(2, 2), moved_cells(floor(2, 2), 1, 2))

    def test_touching_by_a_corner_alone(self):
        self.check([(0, 0)], [(1, 1)])
        self.check(floor(2, 2), moved_cells(floor(2, 2), -2, 2))
        self.assertEqual(joined(rounds([(0, 0)]), rounds([(1, 1)])), [("rim", 0, 0, (1, 5))])

    def test_one_within_a_hole_of_the_other(self):
        ring = in_order(square_ring(5, 0))
        self.check(ring, [(2, 2)])
        self.check(ring, [(1, 1)])
        self.check(ring, moved_cells(floor(3, 3), 1, 1))
        self.assertEqual(joined(rounds(ring), rounds(moved_cells(floor(3, 3), 1, 1))), rounds(floor(5, 5)))

    def test_one_in_the_other(self):
        self.check(floor(5, 5), moved_cells(floor(3, 3), 1, 1))
        self.check(floor(5, 5), [(0, 0), (4, 4)])
        self.assertEqual(without(rounds(floor(3, 3)), rounds([(1, 1)])), rounds(in_order(square_ring(3, 0))))

    def test_the_same_one(self):
        for picture in ([(0, 0)], drawn("###", "#.#", "###"), far_cells()):
            self.check(picture, picture)
            some = rounds(picture)
            self.assertEqual([joined(some, some), common(some, some)], [some, some])
            self.assertEqual([without(some, some), apart(some, some)], [[], []])

    def test_none_and_one(self):
        self.check([], drawn("###", "#.#", "###"))
        some = rounds(drawn("###", "#.#", "###"))
        self.assertEqual([deed(some, []) for deed in (joined, common, without, apart)], [some, [], some, some])
        self.assertEqual([deed([], some) for deed in (joined, common, without, apart)], [some, [], [], some])

    def test_none_and_none(self):
        self.assertEqual([deed([], []) for deed in (joined, common, without, apart)], [[], [], [], []])

    def test_cells_far_apart(self):
        cells = far_cells()
        self.check(cells[:60], cells[60:])
        self.check(cells[:90], cells[50:])
        self.check(cells, [(x + 1, y) for x, y in cells])
        self.check([(-MOST, -MOST), (MOST, -MOST)], [(-MOST, MOST), (MOST, MOST)])

    def test_a_hole_closed_and_opened(self):
        self.check(drawn("###", "#..", "###"), [(2, 1)])
        self.check(drawn("###", "#.#", "###"), [(2, 1), (3, 1)])

    def test_each_two_pictures_of_a_floor(self):
        for picture, other in itertools.product(all_pictures(3, 2), moved_pictures(1, 1)):
            self.check(picture, other)

    def test_some_greater_ones(self):
        pictures = list(some_pictures(8, 7, 60))
        for at in range(len(pictures) - 1):
            self.check(pictures[at], moved_cells(pictures[at + 1], at % 5 - 2, at % 3 - 1))


def moved_pictures(dx, dy):
    """Each picture of a small floor at another place."""
    return [moved_cells(picture, dx, dy) for picture in all_pictures(2, 2)]


class PutAndTaken(unittest.TestCase):
    def told(self, deed, picture, x, y):
        """What is told, held against the rounds of the picture with or without the cell."""
        some = rounds(picture)
        told = deed(some, x, y)
        self.assertEqual([type(told)] + [type(part) for part in told], [tuple, list, list, list])
        behind = rounds(in_order(set(picture) ^ {(x, y)}))
        self.assertEqual(told[0], behind)
        self.assertEqual(told[1], [one for one in some if one not in behind])
        self.assertEqual(told[2], [one for one in behind if one not in some])
        return told

    def counts(self, deed, picture, x, y):
        return tuple(len(part) for part in self.told(deed, picture, x, y))

    def test_known_ones(self):
        self.assertEqual(put([], 3, 4), ([("rim", 3, 4, ())], [], [("rim", 3, 4, ())]))
        self.assertEqual(taken([("rim", 3, 4, ())], 3, 4), ([], [("rim", 3, 4, ())], []))
        pair = [("rim", 0, 0, (0, 4))]
        self.assertEqual(put([("rim", 0, 0, ())], 1, 0), (pair, [("rim", 0, 0, ())], pair))
        self.assertEqual(taken(pair, 0, 0), ([("rim", 1, 0, ())], pair, [("rim", 1, 0, ())]))

    def test_refused(self):
        some = rounds(drawn("####", "#..#", "#.##", "####"))
        for x, y in itertools.product(range(-1, 5), range(-1, 5)):
            if (x, y) in drawn("####", "#..#", "#.##", "####"):
                refused(self, put, some, x, y, Twice)
                taken(some, x, y)
            else:
                refused(self, taken, some, x, y, NoCell)
                put(some, x, y)
        refused(self, taken, [], 0, 0, NoCell)

    def test_refused_amid_and_far_off(self):
        square = [great_rounds()[0]]
        for x, y in ((0, 0), (30, 30), (60, 60), (1, 59)):
            refused(self, put, square, x, y, Twice)
        for x, y in ((-1, 0), (0, -1), (61, 30), (30, 61), (30, FAR), (-FAR, 30), (MOST, -MOST)):
            refused(self, taken, square, x, y, NoCell)
        hole = ("hole", 0, 0, great_rounds()[2][3])
        rim = ("rim", 0, -1, (1,) * 61 + (3,) * 61 + (5,) * 61 + (7,) * 61)
        refused(self, taken, [rim, hole], 0, 60, NoCell)
        refused(self, put, [rim, hole], 0, -1, Twice)

    def test_refused_in_one_within_another(self):
        picture = in_order(square_ring(7, 0) + square_ring(3, 2))
        some = rounds(picture)
        for x, y in floor(7, 7):
            kind, deed = (Twice, put) if (x, y) in picture else (NoCell, taken)
            refused(self, deed, some, x, y, kind)

    def test_what_is_refused_changes_nothing(self):
        some = rounds(drawn("##", "#."))
        kept = list(some)
        refused(self, put, some, 0, 0, Twice)
        refused(self, taken, some, 5, 5, NoCell)
        self.assertEqual(some, kept)

    def test_pieces_joined_by_a_cell(self):
        self.assertEqual(self.counts(put, [(0, 0), (2, 0)], 1, 0), (1, 2, 1))
        self.assertEqual(self.counts(put, [(0, 0), (2, 0), (0, 2), (2, 2)], 1, 1), (1, 4, 1))
        self.assertEqual(self.counts(put, [(0, 0), (2, 2), (9, 9)], 1, 1), (2, 2, 1))

    def test_a_piece_parted(self):
        self.assertEqual(self.counts(taken, [(0, 0), (1, 0), (2, 0)], 1, 0), (2, 1, 2))
        self.assertEqual(self.counts(taken, drawn("#.#", ".#.", "#.#"), 1, 1), (4, 1, 4))

    def test_a_hole_closed(self):
        self.assertEqual(self.counts(put, drawn("###", "#..", "###"), 2, 1), (2, 1, 2))
        self.assertEqual(self.counts(put, drawn(".#.", "#..", ".#."), 2, 1), (2, 1, 2))

    def test_a_hole_opened(self):
        self.assertEqual(self.counts(taken, drawn("###", "#.#", "###"), 2, 1), (1, 2, 1))

    def test_a_corner_of_a_ring_leaves_the_hole(self):
        ring = drawn("###", "#.#", "###")
        rim, hole = rounds(ring)
        told = self.told(taken, ring, 2, 2)
        self.assertEqual((len(told[0]), told[1], len(told[2])), (2, [rim], 1))
        self.assertIn(hole, told[0])

    def test_a_hole_parted_in_two(self):
        self.assertEqual(self.counts(put, drawn("#####", "#...#", "#####"), 2, 1), (3, 1, 2))

    def test_a_hole_filled(self):
        self.assertEqual(self.counts(put, drawn("###", "#.#", "###"), 1, 1), (1, 1, 0))

    def test_a_hole_made_amid(self):
        self.assertEqual(self.counts(taken, floor(3, 3), 1, 1), (2, 0, 1))

    def test_a_cell_in_a_hole(self):
        self.assertEqual(self.counts(put, in_order(square_ring(5, 0)), 2, 2), (3, 0, 1))

    def test_each_cell_of_each_small_picture(self):
        for picture in all_pictures(3, 3):
            for x, y in moved_cells(floor(5, 5), -1, -1):
                self.told(taken if (x, y) in picture else put, picture, x, y)

    def test_each_cell_of_greater_ones(self):
        for picture in some_pictures(7, 6, 40):
            for x, y in moved_cells(floor(9, 8), -1, -1):
                self.told(taken if (x, y) in picture else put, picture, x, y)

    def test_a_round_all_of_whose_edges_are_far_stays(self):
        stays = 0
        for picture in some_pictures(12, 9, 20):
            some = rounds(picture)
            for x, y in floor(12, 9)[::7]:
                told, left, come = self.told(taken if (x, y) in picture else put, picture, x, y)
                far = [one for one in some if is_far(one, x, y)]
                self.assertEqual([one for one in far if one in left or one not in told], [])
                self.assertEqual([one for one in come if is_far(one, x, y)], [])
                stays += len(far)
        self.assertGreater(stays, 100)

    def test_a_round_that_is_near_may_stay(self):
        # The cell touches the hole's round by its gap's neighbour alone.
        picture = drawn("#####", "#...#", "#...#", "#...#", "#####")
        some = rounds(picture)
        told, left, come = put(some, 2, 2)
        self.assertEqual((told, left, come), (some + [("rim", 2, 2, ())], [], [("rim", 2, 2, ())]))
        self.assertFalse(is_far(some[1], 2, 2))

    def test_far_from_the_origin(self):
        picture = moved_cells(drawn("###", "#.#", "###"), MOST, -MOST)
        self.assertEqual(self.counts(put, picture, MOST + 1, -MOST + 1), (1, 1, 0))
        self.assertEqual(self.counts(taken, picture, MOST, -MOST + 1), (1, 2, 1))
        self.assertEqual(self.counts(put, far_cells()[:-1], 0, MOST), (120, 0, 1))
        self.assertEqual(self.counts(taken, far_cells(), 0, 0), (119, 1, 0))

    def test_put_and_taken_again_all_is_as_it_was(self):
        for picture in (drawn("##.", "#.#"), slant_ring(4), far_cells()):
            some = rounds(picture)
            more, left, come = put(some, 7, 1)
            self.assertEqual(taken(more, 7, 1), (some, come, left))


if __name__ == "__main__":
    unittest.main()
