"""Points 8 and 9."""

import unittest

from rimsteps.cells import cell_table
from rimsteps.edges import all_edges, edge_behind, gap_beside, step_behind
from tests.helper import drawn, many_small_pictures, slow_behind, slow_edges


def behind(picture, edge):
    step = step_behind(cell_table(picture), edge)
    return edge_behind(edge, step), step


class Edges(unittest.TestCase):
    def test_the_gap_at_the_right_of_each_way(self):
        self.assertEqual([gap_beside((5, 5, way)) for way in range(4)], [(5, 4), (6, 5), (5, 6), (4, 5)])

    def test_no_cells_no_edges(self):
        self.assertEqual(all_edges([]), [])

    def test_a_lone_cell_has_four(self):
        self.assertEqual(all_edges([(2, -1)]), [(2, -1, 0), (2, -1, 1), (2, -1, 2), (2, -1, 3)])

    def test_none_between_two_cells(self):
        self.assertEqual(
            all_edges([(0, 0), (1, 0)]),
            [(0, 0, 0), (0, 0, 2), (0, 0, 3), (1, 0, 0), (1, 0, 1), (1, 0, 2)],
        )

    def test_a_cell_amid_cells_has_none(self):
        self.assertNotIn((1, 1), [edge[:2] for edge in all_edges(drawn(".#.", "###", ".#."))])

    def test_many_small_pictures(self):
        for picture in many_small_pictures():
            told = all_edges(picture)
            self.assertEqual(len(told), len(set(told)))
            self.assertEqual(set(told), slow_edges(picture))


class Behind(unittest.TestCase):
    def test_a_left_turn_on_the_cell(self):
        for way, turned in [(0, 1), (1, 2), (2, 3), (3, 0)]:
            self.assertEqual(behind([(7, 7)], (7, 7, way)), ((7, 7, turned), None))

    def test_a_straight_step(self):
        for way, cell, step in [(0, (8, 7), 0), (1, (7, 8), 2), (2, (6, 7), 4), (3, (7, 6), 6)]:
            self.assertEqual(behind([cell, (7, 7)], (7, 7, way)), (cell + (way,), step))

    def test_a_slant_step(self):
        for way, cell, step, turned in [(0, (8, 6), 7, 3), (1, (8, 8), 1, 0), (2, (6, 8), 3, 1), (3, (6, 6), 5, 2)]:
            self.assertEqual(behind([cell, (7, 7)], (7, 7, way)), (cell + (turned,), step))

    def test_the_slant_step_goes_ahead_of_the_straight_one(self):
        for way, straight, cell, step, turned in [
            (0, (8, 7), (8, 6), 7, 3),
            (1, (7, 8), (8, 8), 1, 0),
            (2, (6, 7), (6, 8), 3, 1),
            (3, (7, 6), (6, 6), 5, 2),
        ]:
            self.assertEqual(behind([straight, cell, (7, 7)], (7, 7, way)), (cell + (turned,), step))

    def test_many_small_pictures(self):
        for picture in many_small_pictures():
            cells = set(picture)
            for edge in all_edges(picture):
                self.assertEqual(behind(picture, edge), slow_behind(cells, edge))


if __name__ == "__main__":
    unittest.main()
