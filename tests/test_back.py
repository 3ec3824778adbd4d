"""Points 15 and 16."""

import unittest

from rimsteps.back import cells_within, picture_of
from rimsteps.errors import NoRound, NoRounds, RimError
from rimsteps.rounds import rounds
from tests.helper import (
    ALL_CLASSES, FAR, drawn, floor, four_rings, great_pictures, many_small_pictures, refused_at, slow_within,
    square_ring,
)

NESTED = drawn("#####", "#...#", "#.#.#", "#...#", "#####")
RING = rounds(drawn("###", "#.#", "###"))
WRONG = ("rim", 0, 0, (0, 0, 4, 6))


class Within(unittest.TestCase):
    def test_a_lone_cell(self):
        self.assertEqual(cells_within(("rim", 5, -3, ())), [(5, -3)])

    def test_a_rim_with_a_hole(self):
        self.assertEqual(cells_within(RING[0]), floor(3, 3))

    def test_a_hole_s_round(self):
        self.assertEqual(cells_within(RING[1]), [(1, 1)])

    def test_a_piece_within_a_hole(self):
        rim, hole, inner = rounds(NESTED)
        self.assertEqual(cells_within(rim), floor(5, 5))
        self.assertEqual(cells_within(hole), [(x + 1, y + 1) for x, y in floor(3, 3)])
        self.assertEqual(cells_within(inner), [(2, 2)])

    def test_rings_of_slant_steps(self):
        rim, hole = rounds(drawn("..#..", ".#.#.", "#...#", ".#.#.", "..#.."))
        self.assertEqual(cells_within(rim), drawn("..#..", ".###.", "#####", ".###.", "..#.."))
        self.assertEqual(cells_within(hole), drawn(".....", "..#..", ".###.", "..#..", "....."))

    def test_several_stretches_in_one_row(self):
        comb = drawn("#.#.#", "#.#.#", "#####")
        self.assertEqual(cells_within(rounds(comb)[0]), comb)
        (rim, hole) = rounds(drawn("#######", "#.#.#.#", "#.....#", "#######"))
        self.assertEqual(cells_within(rim), floor(7, 4))
        self.assertEqual(cells_within(hole), drawn(".......", ".#.#.#.", ".#####.", "......."))

    def test_of_each_round_of_many_pictures(self):
        for picture in many_small_pictures():
            for one in rounds(picture):
                self.assertEqual(cells_within(one), slow_within(picture, one))

    def test_far_away(self):
        self.assertEqual(cells_within(("rim", FAR, -FAR, (0, 2, 4, 6))),
                         [(FAR, -FAR), (FAR + 1, -FAR), (FAR, 1 - FAR), (FAR + 1, 1 - FAR)])


class ToldBack(unittest.TestCase):
    def test_no_rounds_no_cells(self):
        self.assertEqual(picture_of([]), [])

    def test_a_picture_s_rounds_tell_the_picture(self):
        for picture in many_small_pictures():
            self.assertEqual(picture_of(rounds(picture)), picture)

    def test_at_the_bounds(self):
        for name, picture in great_pictures().items():
            with self.subTest(name=name):
                self.assertEqual(picture_of(rounds(picture)), picture)

    def test_pictures_of_many_more_than_120_cells(self):
        self.assertEqual(picture_of([("rim", 0, 0, (0,) * 60 + (2,) * 60 + (4,) * 60 + (6,) * 60)]), floor(61, 61))
        thick = [cell for cell in floor(40, 40) if not (5 <= cell[0] < 30 and 7 <= cell[1] < 31)]
        self.assertEqual(picture_of(rounds(thick)), thick)

    def test_what_is_told_is_a_list_of_tuples(self):
        told = picture_of(RING)
        self.assertIs(type(told), list)
        self.assertEqual({type(cell) for cell in told}, {tuple})


class NoRoundOfTheFirst(unittest.TestCase):
    def test_a_refused_one_alone(self):
        self.assertEqual(refused_at(self, picture_of, [WRONG], NoRound), 3)

    def test_among_others(self):
        for at in range(len(RING) + 1):
            self.assertEqual(refused_at(self, picture_of, RING[:at] + [WRONG] + RING[at:], NoRound), 3)

    def test_the_first_of_several(self):
        others = [("rim", 0, 0, (0,)), WRONG, ("rim", 0, 0, (6,)), ("rim", 0, 0, (0, 4, 0, 4))]
        for first, at in zip(others, (1, 3, 0, 4)):
            rest = [one for one in others if one != first]
            self.assertEqual(refused_at(self, picture_of, [first] + rest, NoRound), at)
            self.assertEqual(refused_at(self, picture_of, RING + [first] + rest, NoRound), at)

    def test_ahead_of_no_rounds(self):
        # The list ahead of it is no picture's either.
        for some in ([RING[1]], RING + RING, RING[::-1], [("rim", 9, 9, ())] + RING):
            self.assertEqual(refused_at(self, picture_of, some + [WRONG], NoRound), 3)
            self.assertEqual(refused_at(self, picture_of, [WRONG] + some, NoRound), 3)


class NoPicturesRounds(unittest.TestCase):
    def assert_refused(self, some, at):
        with self.subTest(some=some):
            self.assertEqual(refused_at(self, picture_of, some, NoRounds), at)

    def test_the_class(self):
        with self.assertRaises(NoRounds) as caught:
            picture_of(RING[::-1])
        self.assertIsInstance(caught.exception, RimError)
        self.assertIsInstance(caught.exception, ValueError)
        self.assertEqual([kind for kind in ALL_CLASSES if isinstance(caught.exception, kind)], [NoRounds])

    def test_a_hole_s_round_alone(self):
        # No cells are told, so no rounds: the shorter list's length.
        self.assert_refused([RING[1]], 0)

    def test_two_exchanged(self):
        self.assert_refused(RING[::-1], 0)
        lone = [("rim", x, 0, ()) for x in (0, 2, 4, 6)]
        for first in range(4):
            for other in range(first + 1, 4):
                some = list(lone)
                some[first], some[other] = some[other], some[first]
                self.assert_refused(some, first)

    def test_told_twice(self):
        lone = [("rim", x, 0, ()) for x in (0, 2, 4, 6)]
        for at in range(4):
            self.assert_refused(lone[:at + 1] + lone[at:], at + 1)
            self.assert_refused(lone + [lone[at]], 4)
        # Twice within the rim, twice within the hole: the ring's cells, but its rounds once.
        self.assert_refused(RING + RING, 2)
        self.assert_refused([RING[0], RING[0], RING[1], RING[1]], 1)
        # Twice within the rim, once within the hole: all nine cells.
        self.assert_refused([RING[0], RING[0], RING[1]], 1)
        # Once within the rim, twice within the hole: the ring.
        self.assert_refused([RING[0], RING[1], RING[1]], 2)

    def test_one_left_out(self):
        rim, hole, inner = rounds(NESTED)
        # Without the hole's round all within the rim are cells, and the rim is their one round.
        self.assert_refused([rim, inner], 1)
        # Within the rim that is left out no cells are told, so no rounds.
        self.assert_refused([hole, inner], 0)
        self.assert_refused([hole], 0)

    def test_a_list_cut_short(self):
        told = rounds(four_rings())
        # Cut at its end the list is that of a picture with less in its holes.
        for many in range(len(told) + 1):
            self.assertEqual(rounds(picture_of(told[:many])), told[:many])
        # Cut at its beginning it begins with a hole in nothing, or with a lesser rim.
        for many in range(1, len(told)):
            if told[many][0] == "rim":
                self.assertEqual(rounds(picture_of(told[many:])), told[many:])
            else:
                self.assert_refused(told[many:], 0)

    def test_the_told_list_is_the_beginning_of_it(self):
        self.assert_refused([RING[0], ("rim", 1, 1, ())], 1)
        self.assert_refused(RING + [("rim", 1, 1, ())], 1)
        self.assert_refused(rounds(NESTED) + [("rim", 2, 2, ())], 3)
        # The hole is filled again, and the rim round the slant ring is that of the full cross.
        self.assert_refused(rounds(drawn(".#.", "#.#", ".#.")) + [("rim", 1, 1, ())], 1)
        self.assert_refused([("rim", 0, 0, ()), ("rim", 5, 5, ()), ("rim", 5, 5, ())], 2)

    def test_cells_that_touch(self):
        self.assert_refused([("rim", 0, 0, ()), ("rim", 1, 0, ())], 0)
        self.assert_refused([("rim", 9, -5, ()), ("rim", 0, 0, ()), ("rim", 1, 1, ())], 1)
        # Four lone cells that shut a hole in.
        self.assert_refused([("rim", 1, 0, ()), ("rim", 0, 1, ()), ("rim", 2, 1, ()), ("rim", 1, 2, ())], 0)
        # Two holes side by side are one.
        rim = rounds(floor(4, 3))[0]
        self.assert_refused([rim, ("hole", 1, 0, (3, 1, 7, 5)), ("hole", 2, 0, (3, 1, 7, 5))], 1)

    def test_another_picture_s_put_in(self):
        told = rounds(NESTED)
        self.assert_refused([("rim", -9, -9, (0, 4)), ("rim", -8, -9, ())] + told, 1)
        # This hole holds just the inner cell: it is filled again.
        self.assert_refused([told[0], ("hole", 2, 1, (3, 1, 7, 5)), told[2]], 1)
        # This cell joins the piece, so that the hole's round is another.
        self.assert_refused(told + [("rim", 1, 1, ())], 1)
        self.assert_refused(told[:1] + [("hole", 9, 9, (3, 1, 7, 5))] + told[1:], 1)

    def test_the_same_as_the_told_picture_s_rounds_or_refused(self):
        pool = [one for picture in (NESTED, square_ring(3, 1), [(2, 2)], [(1, 2), (2, 2)]) for one in rounds(picture)]
        let_by = 0
        for first in pool:
            for second in pool:
                for third in pool:
                    some = [first, second, third]
                    depths = {}
                    for one in some:
                        for cell in cells_within(one):
                            depths[cell] = depths.get(cell, 0) + (1 if one[0] == "rim" else -1)
                    told = rounds(sorted([cell for cell in depths if depths[cell] > 0], key=lambda cell: cell[::-1]))
                    if told == some:
                        self.assertEqual(rounds(picture_of(some)), some)
                        let_by += 1
                    else:
                        same = [one == other for one, other in zip(some, told)] + [False]
                        self.assert_refused(some, same.index(False))
        self.assertGreater(let_by, 0)


if __name__ == "__main__":
    unittest.main()
