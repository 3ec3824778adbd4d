"""Points 2 and 3: nothing handed in is changed, what is told is the asker's own, all is told soon."""

import unittest

from rimsteps.cells import ask_picture, pieces
from rimsteps.rounds import holes, rounds
from tests.helper import (
    FAR, begin_edge, chess_floor, drawn, far_cells, floor, four_full_rings, four_rings, great_pictures, slant_ring,
    slow_edges, slow_walk, soon,
)

NESTED = drawn("#####", "#...#", "#.#.#", "#...#", "#####", "", "##.##")


class Untouched(unittest.TestCase):
    def test_what_is_handed_in_stays_as_it_was(self):
        for picture in [[], [(0, 0)], NESTED] + list(great_pictures().values()):
            kept = list(picture)
            for deed in (ask_picture, pieces, holes, rounds):
                deed(picture)
                self.assertEqual(picture, kept)

    def test_what_is_refused_stays_as_it_was(self):
        for deed in (ask_picture, pieces, holes, rounds):
            picture = [(1, 0), (0, 0), (5, 5), (5, 5)]
            with self.subTest(deed=deed.__name__), self.assertRaises(ValueError):
                deed(picture)
            self.assertEqual(picture, [(1, 0), (0, 0), (5, 5), (5, 5)])

    def test_a_told_list_is_the_askers_own(self):
        for deed in (pieces, holes, rounds):
            with self.subTest(deed=deed.__name__):
                kept = list(deed(NESTED))
                deed(NESTED).clear()
                deed(NESTED).append("more")
                self.assertEqual(deed(NESTED), kept)

    def test_a_list_in_a_told_list_is_the_askers_own(self):
        for deed in (pieces, holes):
            with self.subTest(deed=deed.__name__):
                kept = [list(lot) for lot in deed(NESTED)]
                for lot in deed(NESTED):
                    lot.clear()
                self.assertEqual(deed(NESTED), kept)

    def test_a_told_piece_is_not_the_picture(self):
        picture = [(0, 0), (1, 0)]
        pieces(picture)[0].append((2, 0))
        self.assertEqual(picture, [(0, 0), (1, 0)])

    def test_the_picture_changed_later_changes_nothing_told(self):
        for deed in (pieces, holes, rounds):
            with self.subTest(deed=deed.__name__):
                picture = list(NESTED)
                told = deed(picture)
                kept = deed(NESTED)
                picture.clear()
                self.assertEqual(told, kept)


class Bounds(unittest.TestCase):
    def test_all_is_told_soon(self):
        for name, picture in great_pictures().items():
            for deed in (ask_picture, pieces, holes, rounds):
                with self.subTest(name=name, deed=deed.__name__), soon(self):
                    deed(picture)

    def test_each_edge_is_walked_just_once(self):
        for name, picture in great_pictures().items():
            with self.subTest(name=name):
                walked = []
                for one in rounds(picture):
                    walked += slow_walk(picture, begin_edge(one))[0]
                self.assertEqual(len(walked), len(set(walked)))
                self.assertEqual(set(walked), slow_edges(picture))

    def test_cells_far_apart(self):
        picture = far_cells()
        self.assertEqual(len(picture), 120)
        self.assertEqual(picture[0], (-6 * FAR, -5 * FAR))
        self.assertEqual(pieces(picture), [[cell] for cell in picture])
        self.assertEqual(holes(picture), [])
        self.assertEqual(rounds(picture), [("rim", x, y, ()) for x, y in picture])

    def test_rings_far_apart(self):
        picture = drawn("###", "#.#", "###") + drawn("###", "#.#", "###", x=FAR, y=FAR)
        self.assertEqual(holes(picture), [[(1, 1)], [(FAR + 1, FAR + 1)]])
        self.assertEqual([one[:3] for one in rounds(picture)],
                         [("rim", 0, 0), ("hole", 1, 0), ("rim", FAR, FAR), ("hole", FAR + 1, FAR)])

    def test_numbers_of_thirty_figures(self):
        most = 10 ** 30 - 1
        self.assertEqual(rounds([(-most, -most), (most, most)]), [("rim", -most, -most, ()), ("rim", most, most, ())])

    def test_a_full_floor(self):
        picture = floor(12, 10)
        self.assertEqual(pieces(picture), [picture])
        self.assertEqual(holes(picture), [])
        self.assertEqual(rounds(picture), [("rim", 0, 0, (0,) * 11 + (2,) * 9 + (4,) * 11 + (6,) * 9)])

    def test_a_chess_floor(self):
        picture = chess_floor()
        self.assertEqual(len(picture), 120)
        self.assertEqual(pieces(picture), [picture])
        inner = [(x, y) for x, y in floor(16, 15) if (x + y) % 2 == 1 and 0 < x < 15 and 0 < y < 14]
        self.assertEqual(holes(picture), [[gap] for gap in inner])
        told = rounds(picture)
        self.assertEqual([one[:3] for one in told if one[0] == "rim"], [("rim", 0, 0)])
        self.assertEqual([one for one in told if one[0] == "hole"],
                         [("hole", x, y - 1, (3, 1, 7, 5)) for x, y in inner])

    def test_a_ring_of_slant_steps_around_a_great_hole(self):
        picture = slant_ring(30)
        self.assertEqual(len(picture), 120)
        self.assertEqual(pieces(picture), [picture])
        span = range(-29, 30)
        gaps = [(x, y) for y in span for x in span if abs(x) + abs(y) < 30]
        self.assertGreater(len(gaps), 1000)
        self.assertEqual(holes(picture), [gaps])
        self.assertEqual(
            rounds(picture),
            [
                ("rim", 0, -30, (1,) * 30 + (3,) * 30 + (5,) * 30 + (7,) * 30),
                ("hole", 0, -30, (3,) * 30 + (1,) * 30 + (7,) * 30 + (5,) * 30),
            ],
        )

    def test_four_square_rings_one_within_the_other(self):
        for picture, cells, gaps in [
            (four_rings(), [52, 36, 20, 4], [52, 36, 20, 1]),
            (four_full_rings(), [56, 40, 24, 8], [48, 32, 16, 1]),
        ]:
            self.assertEqual([len(piece) for piece in pieces(picture)], cells)
            self.assertEqual([len(hole) for hole in holes(picture)], gaps)
            self.assertEqual([one[0] for one in rounds(picture)], ["rim", "hole"] * 4)


if __name__ == "__main__":
    unittest.main()
