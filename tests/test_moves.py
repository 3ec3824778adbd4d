"""Points 22 and 23."""

import unittest

from rimsteps.moves import greater, greater_all, mirrored, mirrored_all, moved, moved_all, turned, turned_all
from rimsteps.reading import edges_of, is_round
from rimsteps.rounds import rounds
from tests.helper import (
    FAR, MOST, all_pictures, are_one_row_gone_round, begin_edge, drawn, far_cells, four_rings, great_cells,
    great_pictures, many_small_pictures, mirrored_cells, mirrored_edges, moved_cells, slow_walk, some_pictures,
    turned_cells, turned_edges,
)

LONE = ("rim", 5, -3, ())
RING = rounds(drawn("###", "#.#", "###"))
# The cells (0, 0), (1, 0), (2, 0), (2, 1): neither turned nor mirrored it is itself.
HOOK = ("rim", 0, 0, (0, 0, 2, 5, 4))
NESTED = drawn("#####...", "#...#..#", "#.#.#.##", "#...#...", "#####.#.")


def pictures():
    yield from many_small_pictures()
    yield four_rings()
    yield NESTED


class Moved(unittest.TestCase):
    def test_known_ones(self):
        self.assertEqual(moved(LONE, 2, -4), ("rim", 7, -7, ()))
        self.assertEqual(moved(RING[1], -1, 0), ("hole", 0, 0, (3, 1, 7, 5)))
        self.assertEqual(moved(HOOK, 0, 0), HOOK)
        self.assertEqual(moved(HOOK, MOST, -MOST), ("rim", MOST, -MOST, HOOK[3]))
        self.assertEqual(moved(("rim", MOST, -MOST, ()), -MOST, MOST), ("rim", 0, 0, ()))
        self.assertEqual(moved_all([], 1, 1), [])

    def test_the_rounds_of_the_picture_moved(self):
        for picture in pictures():
            told = rounds(picture)
            for dx, dy in ((0, 0), (1, 0), (0, -1), (-3, 7), (FAR, -FAR)):
                expected = rounds(moved_cells(picture, dx, dy))
                self.assertEqual(moved_all(told, dx, dy), expected)
                self.assertEqual([moved(one, dx, dy) for one in told], expected)


class Turned(unittest.TestCase):
    def test_a_lone_cell(self):
        self.assertEqual([turned(LONE, quarters) for quarters in range(5)],
                         [LONE, ("rim", 3, 5, ()), ("rim", -5, 3, ()), ("rim", -3, -5, ()), LONE])

    def test_a_row_of_cells(self):
        self.assertEqual(
            [turned(("rim", 0, 0, (0, 0, 4, 4)), quarters) for quarters in range(4)],
            [("rim", 0, 0, (0, 0, 4, 4)), ("rim", 0, 0, (2, 2, 6, 6)),
             ("rim", -2, 0, (0, 0, 4, 4)), ("rim", 0, -2, (2, 2, 6, 6))],
        )

    def test_a_hook(self):
        self.assertEqual(rounds([(0, 0), (1, 0), (2, 0), (2, 1)]), [HOOK])
        self.assertEqual(turned(HOOK, 1), ("rim", 0, 0, (2, 2, 4, 7, 6)))
        self.assertEqual(turned(HOOK, 2), ("rim", -2, -1, (1, 0, 4, 4, 6)))
        self.assertEqual(turned(HOOK, 3), ("rim", 0, -2, (0, 3, 2, 6, 6)))

    def test_a_hole_s_round(self):
        hole = ("hole", 1, 0, (3, 1, 0, 7, 5, 4))
        self.assertEqual(turned(hole, 1), ("hole", -1, 0, (3, 2, 1, 7, 6, 5)))
        self.assertEqual(turned(hole, 2), ("hole", -2, -2, (3, 1, 0, 7, 5, 4)))

    def test_any_number_of_quarters(self):
        for picture in (NESTED, four_rings()):
            told = rounds(picture)
            four = [turned_all(told, quarters) for quarters in range(4)]
            for quarters, at in [(4, 0), (5, 1), (-1, 3), (-2, 2), (-3, 1), (-4, 0), (-5, 3), (102, 2), (10 ** 29, 0),
                                 (10 ** 29 + 3, 3), (-(10 ** 29) - 1, 3), (1 - 10 ** 30, 1)]:
                self.assertEqual(turned_all(told, quarters), four[at], quarters)
                self.assertEqual([turned(one, quarters) for one in told], [turned(one, at) for one in told])

    def test_the_rounds_of_the_picture_turned(self):
        for picture in pictures():
            told = rounds(picture)
            for quarters in range(4):
                expected = rounds(turned_cells(picture, quarters))
                self.assertEqual(turned_all(told, quarters), expected)
                self.assertEqual({turned(one, quarters) for one in told}, set(expected))

    def test_each_round_becomes_its_own(self):
        for picture in some_pictures(6, 6, 150):
            for one in rounds(picture):
                edges = set(slow_walk(picture, begin_edge(one))[0])
                for quarters in range(4):
                    self.assertEqual(set(edges_of(turned(one, quarters))), edges)
                    edges = turned_edges(edges)

    def test_each_step_becomes_the_one_two_further(self):
        further = {0: 2, 1: 3, 2: 4, 3: 5, 4: 6, 5: 7, 6: 0, 7: 1}
        for picture in some_pictures(6, 6, 150):
            for one in rounds(picture):
                row = one[3]
                for quarters in range(1, 4):
                    row = tuple(further[step] for step in row)
                    self.assertTrue(are_one_row_gone_round(row, turned(one, quarters)[3]))


class Mirrored(unittest.TestCase):
    def test_known_ones(self):
        self.assertEqual(mirrored(LONE), ("rim", -5, -3, ()))
        self.assertEqual(mirrored(("rim", 0, 0, (0, 0, 4, 4))), ("rim", -2, 0, (0, 0, 4, 4)))
        self.assertEqual(mirrored(("rim", 0, 0, (1, 5))), ("rim", 0, 0, (3, 7)))
        self.assertEqual(mirrored(HOOK), ("rim", -2, 0, (0, 0, 4, 3, 6)))
        self.assertEqual(mirrored(RING[1]), ("hole", -1, 0, (3, 1, 7, 5)))
        self.assertEqual(mirrored_all([]), [])

    def test_the_rounds_of_the_picture_mirrored(self):
        for picture in pictures():
            told = rounds(picture)
            expected = rounds(mirrored_cells(picture))
            self.assertEqual(mirrored_all(told), expected)
            self.assertEqual({mirrored(one) for one in told}, set(expected))

    def test_each_round_becomes_its_own(self):
        for picture in some_pictures(6, 6, 150):
            for one in rounds(picture):
                edges = set(slow_walk(picture, begin_edge(one))[0])
                self.assertEqual(set(edges_of(mirrored(one))), mirrored_edges(edges))

    def test_the_row_is_gone_the_other_way_round(self):
        other = {0: 0, 1: 7, 2: 6, 3: 5, 4: 4, 5: 3, 6: 2, 7: 1}
        for picture in some_pictures(6, 6, 150):
            for one in rounds(picture):
                row = tuple(other[step] for step in reversed(one[3]))
                self.assertTrue(are_one_row_gone_round(row, mirrored(one)[3]))

    def test_mirrored_twice_it_is_itself(self):
        for picture in pictures():
            for one in rounds(picture):
                self.assertEqual(mirrored(mirrored(one)), one)


class Greater(unittest.TestCase):
    def test_a_lone_cell(self):
        self.assertEqual(greater(LONE, 1), LONE)
        self.assertEqual(greater(LONE, 2), ("rim", 10, -6, (0, 2, 4, 6)))
        self.assertEqual(greater(LONE, 4), ("rim", 20, -12, (0, 0, 0, 2, 2, 2, 4, 4, 4, 6, 6, 6)))

    def test_a_hole_s_round(self):
        self.assertEqual(greater(RING[1], 2), ("hole", 2, 1, (3, 2, 1, 0, 7, 6, 5, 4)))
        self.assertEqual(greater(RING[1], 3), ("hole", 3, 2, (3, 2, 2, 1, 0, 0, 7, 6, 6, 5, 4, 4)))

    def test_the_rounds_of_the_picture_made_greater(self):
        for picture in [NESTED, four_rings()] + list(all_pictures(3, 3)) + list(some_pictures(5, 5, 300)):
            told = rounds(picture)
            for times in range(1, 5):
                expected = rounds(great_cells(picture, times))
                self.assertEqual(greater_all(told, times), expected)
                self.assertEqual({greater(one, times) for one in told}, set(expected))

    def test_each_round_becomes_its_own(self):
        for picture in some_pictures(6, 6, 60):
            for one in rounds(picture):
                cells = {(x, y) for x, y, way in edges_of(one)}
                for times in range(1, 5):
                    told = edges_of(greater(one, times))
                    self.assertEqual(len(told), times * len(edges_of(one)))
                    self.assertEqual({(x // times, y // times) for x, y, way in told}, cells)

    def test_the_straight_steps_that_come_in(self):
        for picture in some_pictures(6, 6, 60):
            for one in rounds(picture):
                edges, deeds = slow_walk(picture, begin_edge(one))
                for times in range(1, 5):
                    row = []
                    for (x, y, way), deed in zip(edges, deeds):
                        row += [2 * way] * (times - 1) + [deed]
                    row = tuple(step for step in row if step is not None)
                    self.assertTrue(are_one_row_gone_round(row, greater(one, times)[3]))


class AllOfThem(unittest.TestCase):
    def test_what_is_told_is_a_round(self):
        for picture in some_pictures(6, 6, 60):
            for one in rounds(picture):
                for told in (moved(one, 3, -3), turned(one, 1), mirrored(one), greater(one, 3)):
                    self.assertIs(is_round(told), True)

    def test_the_order_of_the_lists(self):
        told = rounds(NESTED)
        self.assertNotEqual([turned(one, 2) for one in told], turned_all(told, 2))
        self.assertNotEqual([mirrored(one) for one in told], mirrored_all(told))
        # Of one begin cell the rim first.
        cross = rounds(drawn(".#.", "#.#", ".#."))
        for quarters in range(4):
            self.assertEqual([one[0] for one in turned_all(cross, quarters)], ["rim", "hole"])

    def test_no_rounds(self):
        for told in (moved_all([], 1, 2), turned_all([], 1), mirrored_all([]), greater_all([], 4)):
            self.assertEqual(told, [])
            self.assertIs(type(told), list)

    def test_far_away(self):
        for picture in (far_cells(), moved_cells(NESTED, MOST, -MOST)):
            told = rounds(picture)
            for quarters in range(4):
                self.assertEqual(turned_all(told, quarters), rounds(turned_cells(picture, quarters)))
            self.assertEqual(mirrored_all(told), rounds(mirrored_cells(picture)))
            self.assertEqual(greater_all(told, 4), rounds(great_cells(picture, 4)))
            self.assertEqual(moved_all(told, -MOST, MOST), rounds(moved_cells(picture, -MOST, MOST)))

    def test_at_the_bounds(self):
        for name, picture in great_pictures().items():
            with self.subTest(name=name):
                told = rounds(picture)
                self.assertEqual(turned_all(told, 1), rounds(turned_cells(picture, 1)))
                self.assertEqual(mirrored_all(told), rounds(mirrored_cells(picture)))
                self.assertEqual(greater_all(told, 4), rounds(great_cells(picture, 4)))


if __name__ == "__main__":
    unittest.main()
