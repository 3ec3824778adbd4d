"""Points 5, 6 and, of pieces, 7."""

import unittest

from rimsteps.cells import ask_picture, gone, pieces
from rimsteps.errors import NoPicture, RimError
from rimsteps.rounds import holes, rounds
from tests.helper import ALL_CLASSES, COMPASS, drawn, floor, many_small_pictures, refused_at, slow_pieces

DEEDS = (ask_picture, pieces, holes, rounds)


class Pictures(unittest.TestCase):
    def assert_refused(self, picture, at):
        for deed in DEEDS:
            with self.subTest(deed=deed.__name__):
                self.assertEqual(refused_at(self, deed, picture), at)

    def test_the_picture_without_cells(self):
        self.assertIs(ask_picture([]), True)

    def test_one_cell(self):
        for cell in [(0, 0), (5, -7), (-(10 ** 30) + 1, 10 ** 30 - 1)]:
            self.assertIs(ask_picture([cell]), True)

    def test_cells_in_order_by_y_and_then_by_x(self):
        self.assertIs(ask_picture([(9, -2), (-9, -1), (-3, 0), (-2, 0), (0, 0), (4, 0), (-8, 1), (8, 1)]), True)
        self.assertIs(ask_picture(floor(12, 10)), True)
        self.assertIs(ask_picture([(0, 0), (10 ** 29, 0), (-(10 ** 29), 1)]), True)

    def test_cells_in_order_by_x_and_then_by_y_are_refused(self):
        self.assert_refused([(0, 0), (0, 1), (1, 0), (1, 1)], 2)

    def test_two_cells_exchanged(self):
        for first, other, at in [(0, 1, 1), (5, 6, 6), (10, 11, 11), (0, 11, 1), (3, 8, 4), (0, 5, 1), (2, 11, 3)]:
            picture = floor(4, 3)
            picture[first], picture[other] = picture[other], picture[first]
            self.assert_refused(picture, at)

    def test_one_cell_twice(self):
        for at in range(12):
            picture = floor(4, 3)
            picture.insert(at, picture[at])
            self.assert_refused(picture, at + 1)

    def test_one_cell_twice_further_apart(self):
        self.assert_refused([(0, 0), (1, 0), (2, 0), (0, 0)], 3)

    def test_one_cell_moved(self):
        for cell, place, at in [(0, 11, 11), (0, 6, 6), (6, 0, 1), (11, 0, 1), (11, 5, 6), (4, 9, 9)]:
            picture = floor(4, 3)
            picture.insert(place, picture.pop(cell))
            self.assert_refused(picture, at)

    def test_the_least_index_is_told(self):
        self.assert_refused([(0, 0), (0, 0), (0, 0)], 1)
        self.assert_refused([(0, 0), (1, 0), (0, 0), (5, 5), (4, 5)], 2)
        self.assert_refused([(3, 3), (2, 2), (1, 1), (0, 0)], 1)

    def test_great_numbers_are_held_apart(self):
        great = 10 ** 29
        self.assertIs(ask_picture([(great, great), (great + 1, great), (great - 1, great + 1)]), True)
        self.assert_refused([(great, great), (great - 1, great)], 1)
        self.assert_refused([(great, great), (great + 1, great - 1)], 1)

    def test_the_refusal_is_of_no_other_class(self):
        for deed in DEEDS:
            with self.subTest(deed=deed.__name__), self.assertRaises(RimError) as caught:
                deed([(1, 0), (0, 0)])
            self.assertIsInstance(caught.exception, ValueError)
            self.assertEqual([one for one in ALL_CLASSES if isinstance(caught.exception, one)], [NoPicture])


class Steps(unittest.TestCase):
    def test_each_step(self):
        self.assertEqual(
            [gone(10, 20, step) for step in range(8)],
            [(11, 20), (11, 21), (10, 21), (9, 21), (9, 20), (9, 19), (10, 19), (11, 19)],
        )

    def test_numbers_of_either_sign_and_of_thirty_figures(self):
        great = 10 ** 30 - 2
        for x in (-great, -1, 0, 1, great):
            for y in (-great, -1, 0, 1, great):
                for step, (right, up) in enumerate(COMPASS):
                    self.assertEqual(gone(x, y, step), (x + right, y + up))

    def test_a_cell_is_a_tuple(self):
        self.assertIs(type(gone(0, 0, 3)), tuple)

    def test_the_step_four_further_leads_back(self):
        for x, y in [(0, 0), (-3, 8), (10 ** 29, -(10 ** 29))]:
            for step in range(8):
                self.assertEqual(gone(*gone(x, y, step), (step + 4) % 8), (x, y))


class Pieces(unittest.TestCase):
    def test_the_picture_without_cells(self):
        self.assertEqual(pieces([]), [])

    def test_one_cell(self):
        self.assertEqual(pieces([(4, -4)]), [[(4, -4)]])

    def test_a_corner_alone_joins(self):
        self.assertEqual(pieces([(0, 0), (1, 1)]), [[(0, 0), (1, 1)]])
        self.assertEqual(pieces([(1, 0), (0, 1)]), [[(1, 0), (0, 1)]])

    def test_one_gap_between_parts(self):
        self.assertEqual(pieces([(0, 0), (2, 0)]), [[(0, 0)], [(2, 0)]])
        self.assertEqual(pieces([(0, 0), (0, 2)]), [[(0, 0)], [(0, 2)]])
        self.assertEqual(pieces([(0, 0), (2, 1)]), [[(0, 0)], [(2, 1)]])

    def test_the_order_of_lists_and_of_cells(self):
        picture = drawn(
            "##..#",
            "....#",
            "#.#.#",
            "#.##.",
        )
        self.assertEqual(
            pieces(picture),
            [
                [(0, 0), (0, 1)],
                [(2, 0), (3, 0), (2, 1), (4, 1), (4, 2), (4, 3)],
                [(0, 3), (1, 3)],
            ],
        )

    def test_a_piece_within_a_hole(self):
        ring = [cell for cell in floor(5, 5) if 0 in cell or 4 in cell]
        picture = sorted(ring + [(2, 2)], key=lambda cell: (cell[1], cell[0]))
        self.assertEqual(pieces(picture), [ring, [(2, 2)]])

    def test_many_small_pictures(self):
        for picture in many_small_pictures():
            self.assertEqual(pieces(picture), slow_pieces(picture))


if __name__ == "__main__":
    unittest.main()
