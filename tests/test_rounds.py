"""Point 10."""

import unittest

from rimsteps.cells import cell_table
from rimsteps.edges import all_edges
from rimsteps.rounds import round_of, round_order, rounds, walk_from
from tests.helper import begin_edge, drawn, floor, many_small_pictures, slow_edges, slow_holes, slow_pieces, slow_walk


class KnownRounds(unittest.TestCase):
    def test_the_picture_without_cells(self):
        self.assertEqual(rounds([]), [])

    def test_a_lone_cell(self):
        self.assertEqual(rounds([(5, -3)]), [("rim", 5, -3, ())])

    def test_the_kinds_of_what_is_told(self):
        told = rounds([(5, -3)])
        self.assertIs(type(told), list)
        self.assertIs(type(told[0]), tuple)
        self.assertIs(type(told[0][3]), tuple)

    def test_a_row_of_cells(self):
        self.assertEqual(rounds([(0, 0), (1, 0), (2, 0)]), [("rim", 0, 0, (0, 0, 4, 4))])

    def test_cells_one_above_the_other(self):
        self.assertEqual(rounds([(0, 0), (0, 1), (0, 2)]), [("rim", 0, 0, (2, 2, 6, 6))])

    def test_a_square(self):
        self.assertEqual(rounds(floor(2, 2)), [("rim", 0, 0, (0, 2, 4, 6))])
        self.assertEqual(rounds(floor(3, 3)), [("rim", 0, 0, (0, 0, 2, 2, 4, 4, 6, 6))])

    def test_a_ring_with_a_hole(self):
        self.assertEqual(
            rounds(drawn("###", "#.#", "###")),
            [("rim", 0, 0, (0, 0, 2, 2, 4, 4, 6, 6)), ("hole", 1, 0, (3, 1, 7, 5))],
        )

    def test_a_ring_of_slant_steps_alone_begins_twice_at_one_cell(self):
        self.assertEqual(
            rounds(drawn(".#.", "#.#", ".#.")),
            [("rim", 1, 0, (1, 3, 5, 7)), ("hole", 1, 0, (3, 1, 7, 5))],
        )

    def test_a_greater_ring_of_slant_steps(self):
        self.assertEqual(
            rounds(drawn("..#..", ".#.#.", "#...#", ".#.#.", "..#..")),
            [("rim", 2, 0, (1, 1, 3, 3, 5, 5, 7, 7)), ("hole", 2, 0, (3, 3, 1, 1, 7, 7, 5, 5))],
        )

    def test_a_piece_within_a_hole(self):
        self.assertEqual(
            rounds(drawn("#####", "#...#", "#.#.#", "#...#", "#####")),
            [
                ("rim", 0, 0, (0, 0, 0, 0, 2, 2, 2, 2, 4, 4, 4, 4, 6, 6, 6, 6)),
                ("hole", 1, 0, (3, 2, 2, 1, 0, 0, 7, 6, 6, 5, 4, 4)),
                ("rim", 2, 2, ()),
            ],
        )

    def test_cells_that_touch_by_a_corner_alone(self):
        self.assertEqual(rounds([(0, 0), (1, 1)]), [("rim", 0, 0, (1, 5))])
        self.assertEqual(rounds([(1, 0), (0, 1)]), [("rim", 1, 0, (3, 7))])
        self.assertEqual(rounds(drawn("#.#", ".#.")), [("rim", 1, 0, (1, 5, 3, 7))])
        self.assertEqual(rounds(drawn(".#.", "#.#")), [("rim", 0, 0, (1, 7, 3, 5))])

    def test_a_hole_that_begins_left_of_its_lowest_cells(self):
        self.assertEqual(
            rounds(drawn("####", "#..#", "####")),
            [
                ("rim", 0, 0, (0, 0, 0, 2, 2, 4, 4, 4, 6, 6)),
                ("hole", 1, 0, (3, 1, 0, 7, 5, 4)),
            ],
        )

    def test_two_holes_that_touch_by_a_corner(self):
        self.assertEqual(
            rounds(drawn("####", "##.#", "#.##", "####")),
            [
                ("rim", 0, 0, (0, 0, 0, 2, 2, 2, 4, 4, 4, 6, 6, 6)),
                ("hole", 1, 0, (3, 1, 7, 5)),
                ("hole", 2, 1, (3, 1, 7, 5)),
            ],
        )

    def test_the_order_by_begin_cells(self):
        picture = drawn(
            "###..#",
            "#.#...",
            "###..#",
            "......",
            "#..##.",
        )
        self.assertEqual(
            rounds(picture),
            [
                ("rim", 0, 0, ()),
                ("rim", 3, 0, (0, 4)),
                ("rim", 0, 2, (0, 0, 2, 2, 4, 4, 6, 6)),
                ("hole", 1, 2, (3, 1, 7, 5)),
                ("rim", 5, 2, ()),
                ("rim", 5, 4, ()),
            ],
        )

    def test_moved_far_away(self):
        far = 10 ** 29
        self.assertEqual(
            rounds(drawn(".#.", "#.#", ".#.", x=-far, y=far)),
            [("rim", 1 - far, far, (1, 3, 5, 7)), ("hole", 1 - far, far, (3, 1, 7, 5))],
        )


class ManyPictures(unittest.TestCase):
    def test_the_steps_come_in_turn_and_end_at_the_begin(self):
        for picture in many_small_pictures():
            for one in rounds(picture):
                edges, deeds = slow_walk(picture, begin_edge(one))
                self.assertEqual(one[3], tuple(deed for deed in deeds if deed is not None))

    def test_each_edge_is_walked_just_once(self):
        for picture in many_small_pictures():
            walked = []
            for one in rounds(picture):
                walked += slow_walk(picture, begin_edge(one))[0]
            self.assertEqual(len(walked), len(set(walked)))
            self.assertEqual(set(walked), slow_edges(picture))

    def test_left_turns_and_slant_steps(self):
        for picture in many_small_pictures():
            for one in rounds(picture):
                edges, deeds = slow_walk(picture, begin_edge(one))
                slants = [deed for deed in deeds if deed in (1, 3, 5, 7)]
                self.assertEqual(deeds.count(None) - len(slants), {"rim": 4, "hole": -4}[one[0]])

    def test_as_many_as_pieces_and_holes(self):
        for picture in many_small_pictures():
            sorts = [one[0] for one in rounds(picture)]
            self.assertEqual(sorts.count("rim"), len(slow_pieces(picture)))
            self.assertEqual(sorts.count("hole"), len(slow_holes(picture)))

    def test_each_begins_at_its_first_cell_of_that_way(self):
        for picture in many_small_pictures():
            for one in rounds(picture):
                begin = begin_edge(one)
                edges, deeds = slow_walk(picture, begin)
                cells = [(y, x) for x, y, way in edges if way == begin[2]]
                self.assertEqual((one[2], one[1]), min(cells))

    def test_the_order(self):
        for picture in many_small_pictures():
            begins = [(y, x, ["rim", "hole"].index(sort)) for sort, x, y, row in rounds(picture)]
            self.assertEqual(begins, sorted(begins))
            self.assertEqual(len(begins), len(set(begins)))

    def test_a_walk_from_any_edge_tells_its_round(self):
        for picture in many_small_pictures():
            table = cell_table(picture)
            told = rounds(picture)
            self.assertEqual({round_of(walk_from(table, edge)) for edge in all_edges(picture)}, set(told))

    def test_rounds_in_any_order_are_put_in_order(self):
        for picture in many_small_pictures():
            told = rounds(picture)
            self.assertEqual(sorted(told[::-1], key=round_order), told)


if __name__ == "__main__":
    unittest.main()
