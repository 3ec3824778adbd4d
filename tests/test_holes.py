"""Point 7, of holes."""

import unittest

from rimsteps.rounds import holes
from tests.helper import drawn, many_small_pictures, slow_holes


class Holes(unittest.TestCase):
    def test_the_picture_without_cells(self):
        self.assertEqual(holes([]), [])

    def test_pictures_without_holes(self):
        self.assertEqual(holes([(3, 3)]), [])
        self.assertEqual(holes(drawn("##", "##")), [])
        self.assertEqual(holes(drawn("#.#", "#.#", "###")), [])

    def test_a_ring(self):
        self.assertEqual(holes(drawn("###", "#.#", "###")), [[(1, 1)]])

    def test_a_ring_of_slant_steps_holds(self):
        self.assertEqual(holes(drawn(".#.", "#.#", ".#.", x=-1, y=-1)), [[(0, 0)]])

    def test_gaps_that_touch_by_a_corner_alone_are_two_holes(self):
        self.assertEqual(holes(drawn("####", "#.##", "##.#", "####")), [[(2, 1)], [(1, 2)]])
        self.assertEqual(holes(drawn("####", "##.#", "#.##", "####")), [[(1, 1)], [(2, 2)]])

    def test_a_gap_that_opens_to_the_outside_by_a_straight_step_is_in_none(self):
        self.assertEqual(holes(drawn("#.#", "#.#", "###")), [])
        self.assertEqual(holes(drawn("###", "..#", "###")), [])
        self.assertEqual(holes(drawn("####", "#..#", "#.##")), [])

    def test_a_gap_that_touches_the_outside_by_a_corner_alone_is_in_one(self):
        self.assertEqual(holes(drawn("##.", "#.#", "###")), [[(1, 1)]])
        self.assertEqual(holes(drawn(".##", "#.#", "###")), [[(1, 1)]])
        self.assertEqual(holes(drawn("###", "#.#", "##.")), [[(1, 1)]])
        self.assertEqual(holes(drawn("###", "#.#", ".##")), [[(1, 1)]])

    def test_a_piece_within_a_hole_is_no_part_of_it(self):
        self.assertEqual(
            holes(drawn("#####", "#...#", "#.#.#", "#...#", "#####")),
            [[(1, 1), (2, 1), (3, 1), (1, 2), (3, 2), (1, 3), (2, 3), (3, 3)]],
        )

    def test_a_hole_within_a_piece_within_a_hole(self):
        picture = drawn("#######", "#.....#", "#.###.#", "#.#.#.#", "#.###.#", "#.....#", "#######")
        told = holes(picture)
        self.assertEqual([len(hole) for hole in told], [16, 1])
        self.assertEqual(told[1], [(3, 3)])

    def test_the_order_of_lists_and_of_gaps(self):
        picture = drawn(
            "#######",
            "#.#...#",
            "#.###.#",
            "#...#.#",
            "#######",
        )
        self.assertEqual(
            holes(picture),
            [
                [(1, 1), (2, 1), (3, 1), (1, 2), (1, 3)],
                [(5, 1), (5, 2), (3, 3), (4, 3), (5, 3)],
            ],
        )

    def test_a_hole_whose_first_gap_is_not_its_leftmost(self):
        picture = drawn("#####", "#..##", "##.##", "#####")
        self.assertEqual(holes(picture), [[(2, 1), (1, 2), (2, 2)]])

    def test_many_small_pictures(self):
        for picture in many_small_pictures():
            self.assertEqual(holes(picture), slow_holes(picture))


if __name__ == "__main__":
    unittest.main()
