"""Point 17."""

import unittest

from rimsteps.around import around
from rimsteps.rounds import rounds
from tests.helper import (
    FAR, drawn, far_cells, four_full_rings, four_rings, many_small_pictures, slant_ring, slow_around, some_pictures,
)


class Around(unittest.TestCase):
    def test_no_rounds(self):
        self.assertEqual(around([]), [])

    def test_a_lone_cell(self):
        self.assertEqual(around([("rim", 5, -3, ())]), [None])

    def test_a_ring(self):
        self.assertEqual(around(rounds(drawn("###", "#.#", "###"))), [None, 0])

    def test_a_cell_amid_a_ring(self):
        self.assertEqual(around(rounds(drawn("#####", "#...#", "#.#.#", "#...#", "#####"))), [None, 0, 1])

    def test_rings_within_one_another(self):
        for picture in (four_rings(), four_full_rings()):
            self.assertEqual([one[0] for one in rounds(picture)], ["rim", "hole"] * 4)
            self.assertEqual(around(rounds(picture)), [None, 0, 1, 2, 3, 4, 5, 6])

    def test_several_in_one(self):
        picture = drawn(
            "###########",
            "#.....#...#",
            "#.#.#.#.#.#",
            "#.....#...#",
            "###########",
        )
        told = rounds(picture)
        self.assertEqual([one[:3] for one in told],
                         [("rim", 0, 0), ("hole", 1, 0), ("hole", 7, 0), ("rim", 2, 2), ("rim", 4, 2), ("rim", 8, 2)])
        self.assertEqual(around(told), [None, 0, 0, 1, 1, 2])

    def test_beside_one_another(self):
        picture = drawn(
            "###.###.#",
            "#.#.#.#..",
            "###.###.#",
        )
        told = rounds(picture)
        self.assertEqual([one[:3] for one in told],
                         [("rim", 0, 0), ("hole", 1, 0), ("rim", 4, 0), ("hole", 5, 0), ("rim", 8, 0), ("rim", 8, 2)])
        self.assertEqual(around(told), [None, 0, None, 2, None, None])

    def test_in_a_bay_but_in_no_hole(self):
        self.assertEqual(around(rounds(drawn("#####", "#...#", "#.#.#", "#...#", "##.##"))), [None, None])
        self.assertEqual(around(rounds(drawn("#.###", "#...#", "#.#.#", "#...#", "#####"))), [None, None])

    def test_a_hole_s_round_that_begins_at_the_begin_cell_of_its_rim(self):
        self.assertEqual(around(rounds(drawn(".#.", "#.#", ".#."))), [None, 0])

    def test_a_cell_amid_a_ring_of_slant_steps(self):
        self.assertEqual(around(rounds(drawn("..#..", ".#.#.", "#...#", ".#.#.", "..#.."))), [None, 0])
        picture = sorted(slant_ring(3) + [(0, 0)], key=lambda cell: cell[::-1])
        self.assertEqual(around(rounds(picture)), [None, 0, 1])

    def test_holes_that_touch_by_corners(self):
        told = rounds(drawn("#####", "#.#.#", "##.##", "#.#.#", "#####"))
        self.assertEqual([one[0] for one in told], ["rim", "hole", "hole", "hole", "hole", "hole"])
        self.assertEqual(around(told), [None, 0, 0, 0, 0, 0])

    def test_far_apart(self):
        self.assertEqual(around(rounds(far_cells())), [None] * 120)
        picture = drawn("###", "#.#", "###") + drawn("###", "#.#", "###", x=FAR, y=FAR)
        self.assertEqual(around(rounds(picture)), [None, 0, None, 2])

    def test_as_pieces_and_holes_tell(self):
        for picture in list(many_small_pictures()) + list(some_pictures(12, 11, 120)):
            told = rounds(picture)
            self.assertEqual(around(told), slow_around(picture, told))

    def test_a_rim_lies_in_a_hole_s_round_and_that_in_a_rim(self):
        for picture in some_pictures(12, 11, 120):
            told = rounds(picture)
            for one, other in zip(told, around(told)):
                if one[0] == "hole":
                    self.assertEqual(told[other][0], "rim")
                elif other is not None:
                    self.assertEqual(told[other][0], "hole")


if __name__ == "__main__":
    unittest.main()
