"""Points 31 to 34."""

import itertools
import unittest

from rimsteps.moves import moved, turned
from rimsteps.reading import ask_round
from rimsteps.rounds import rounds
from rimsteps.thinlooks import do_cross, holds, is_near, leavable
from tests.helper import (
    FAR, MOST, all_pictures, all_spots, drawn, far_cells, great_rounds, in_order, slow_cross, slow_holds, slow_leavable,
    slow_near, slow_spots, some_pictures, square_ring,
)

GREAT = 1000000
LONE = ("rim", 0, 0, ())
SQUARE = ("rim", 0, 0, (0, 0, 0, 0, 2, 2, 2, 2, 4, 4, 4, 4, 6, 6, 6, 6))
LINE = ("rim", 0, 0, (0, 0, 0, 4, 4, 4))
HOOK = ("rim", 0, 0, (0, 0, 2, 5, 4))
GREAT_HOOK = ("rim", 0, 0, (0, 0, 0, 0, 2, 2, 2, 6, 6, 5, 4, 4, 4))
STAIR = ("rim", 0, 0, (0, 0, 4, 3, 4, 4, 0, 7))
CROSSED = ("rim", 0, 0, (0, 0, 0, 2, 4, 5, 3, 6))
RING = rounds(in_order(square_ring(5, 0)))


def corner_lists(one):
    """All corners of the round."""
    spots = range(1, max(1, len(one[3])))
    return [[0] + list(more) for many in range(len(spots) + 1) for more in itertools.combinations(spots, many)]


def small_rounds(most):
    """Rounds of at most so many steps, each name at one place."""
    told = {one for picture in all_pictures(4, 3) for one in rounds(picture) if len(one[3]) <= most}
    return sorted({(sort, row): (sort, x, y, row) for sort, x, y, row in told}.values())


class Near(unittest.TestCase):
    def test_these_are_rounds(self):
        for one in (LONE, SQUARE, LINE, HOOK, GREAT_HOOK, STAIR, CROSSED):
            self.assertIs(ask_round(one), True)

    def test_0_alone(self):
        # The farthest spot is (4, 4), its square 32; of the line (3, 0), its square 9.
        self.assertEqual([is_near(SQUARE, bound, [0]) for bound in (0, 31, 32, GREAT)], [False, False, True, True])
        self.assertEqual([is_near(LINE, bound, [0]) for bound in (0, 8, 9, GREAT)], [False, False, True, True])

    def test_all_spots(self):
        for one in (LONE, SQUARE, LINE, HOOK, RING[1]) + tuple(great_rounds()):
            self.assertIs(is_near(one, 0, list(range(max(1, len(one[3]))))), True)

    def test_a_lone_cell(self):
        self.assertIs(is_near(LONE, 0, [0]), True)
        self.assertIs(is_near(("rim", MOST, -MOST, ()), GREAT, [0]), True)

    def test_straight_stretches(self):
        self.assertIs(is_near(SQUARE, 0, [0, 4, 8, 12]), True)
        self.assertIs(is_near(SQUARE, 0, [0, 4, 8, 13]), False)
        self.assertIs(is_near(SQUARE, 0, [0, 4, 8]), False)
        self.assertIs(is_near(LINE, 0, [0, 3]), True)
        self.assertIs(is_near(LINE, 0, [0, 2]), False)

    def test_just_the_square_and_one_less(self):
        # From (0, 0) to (4, 4): (4, 0) is farthest, by the square 8.
        self.assertIs(is_near(SQUARE, 8, [0, 8]), True)
        self.assertIs(is_near(SQUARE, 7, [0, 8]), False)
        # From (0, 0) to (4, 0) and back: (0, 4) and (4, 4) by 16; these spots lie beyond no end.
        self.assertIs(is_near(SQUARE, 16, [0, 4]), True)
        self.assertIs(is_near(SQUARE, 15, [0, 4]), False)

    def test_a_square_that_is_no_whole_number(self):
        # From (0, 0) to (2, 1) the cell (2, 0) has the square 4 / 5, (1, 0) has 1 / 5.
        self.assertIs(is_near(HOOK, 0, [0, 3, 4]), False)
        self.assertIs(is_near(HOOK, 1, [0, 3, 4]), True)
        # From (0, 0) to (4, 3) the cell (4, 0) has 144 / 25.
        self.assertEqual([is_near(GREAT_HOOK, bound, [0, 7, 8, 9, 10, 11, 12]) for bound in (5, 6)], [False, True])

    def test_the_nearest_point_is_an_end(self):
        self.assertEqual(slow_spots(STAIR), [(0, 0), (1, 0), (2, 0), (1, 0), (0, 1), (-1, 1), (-2, 1), (-1, 1)])
        # The side from spot 2 to the begin: (-2, 1) lies beyond its end (0, 0), by the square 5; from its line by 1.
        self.assertEqual([is_near(STAIR, bound, [0, 2]) for bound in (1, 4, 5)], [False, False, True])
        # The side from spot 3, (1, 0), to the begin; likewise.
        self.assertEqual([is_near(STAIR, bound, [0, 3]) for bound in (4, 5)], [False, True])
        # Beyond its other end: (2, 0) by the square 4 from the side that leads from the begin to spot 6, (-2, 1).
        self.assertEqual([is_near(STAIR, bound, [0, 6]) for bound in (3, 4)], [False, True])

    def test_two_corners_on_one_cell(self):
        # Spots 1 and 5 of the line lie on (1, 0), spot 3 on (3, 0): the square 4 from the side of no length.
        self.assertEqual([is_near(LINE, bound, [0, 1, 5]) for bound in (3, 4)], [False, True])
        self.assertEqual([is_near(LINE, bound, [0, 2, 4]) for bound in (0, 1)], [False, True])

    def test_the_side_from_the_last_corner_to_the_first(self):
        # From (0, 3) straight to the begin nothing is off; from (1, 4) to the begin (0, 4) is off, by 16 / 17.
        self.assertIs(is_near(SQUARE, 0, [0, 4, 8, 12, 13]), True)
        self.assertIs(is_near(SQUARE, 0, [0, 4, 8, 11]), False)
        self.assertIs(is_near(SQUARE, 1, [0, 4, 8, 11]), True)

    def test_rounds_of_240_steps(self):
        square = great_rounds()[0]
        self.assertIs(is_near(square, 0, [0, 60, 120, 180]), True)
        self.assertIs(is_near(square, 0, [0, 60, 120, 181]), False)
        self.assertEqual([is_near(square, bound, [0]) for bound in (7199, 7200)], [False, True])
        self.assertEqual([is_near(square, bound, [0, 120]) for bound in (1799, 1800)], [False, True])
        long = great_rounds()[3]
        self.assertEqual([is_near(long, bound, [0]) for bound in (14399, 14400, GREAT)], [False, True, True])

    def test_far_from_the_origin(self):
        for one in (SQUARE, LINE, HOOK, great_rounds()[0]):
            there = moved(one, MOST, -MOST)
            for corners in ([0], [0, 2], [0, 1, 4], [0, 3]):
                for bound in (0, 1, 2, 4, 5, 8, 16, 31, 32):
                    self.assertIs(is_near(there, bound, corners), slow_near(one, bound, corners))

    def test_each_corners_of_small_rounds(self):
        for one in small_rounds(6):
            for corners in corner_lists(one):
                for bound in (0, 1, 2, 4):
                    self.assertIs(is_near(one, bound, corners), slow_near(one, bound, corners))

    def test_some_corners_of_greater_rounds(self):
        for at, picture in enumerate(some_pictures(7, 6, 60)):
            for one in rounds(picture):
                for apart in (2, 3, 5):
                    corners = list(range(0, max(1, len(one[3])), apart))
                    for bound in (0, 1, 2, 3, 9):
                        self.assertIs(is_near(one, bound, corners), slow_near(one, bound, corners))


class Cross(unittest.TestCase):
    def check(self, one, other, told):
        """Of the sides and their ends exchanged, moved far off, and made far greater."""
        for first, second in ((one, other), (other, one)):
            for a, b in (first, first[::-1]):
                for c, d in (second, second[::-1]):
                    self.assertIs(do_cross((a, b), (c, d)), told)
                    for times, dx, dy in ((1, MOST, -MOST), (FAR, 0, 0), (-FAR, 3, FAR)):
                        cells = [(x * times + dx, y * times + dy) for x, y in (a, b, c, d)]
                        self.assertIs(do_cross((cells[0], cells[1]), (cells[2], cells[3])), told)

    def test_amid(self):
        self.check(((0, 0), (2, 2)), ((0, 2), (2, 0)), True)
        self.check(((0, 0), (1, 1)), ((0, 1), (1, 0)), True)
        self.check(((0, 0), (5, 0)), ((2, -1), (3, 4)), True)
        self.check(((0, 0), (7, 3)), ((3, 1), (4, 2)), True)

    def test_past_one_another(self):
        self.check(((0, 0), (2, 2)), ((3, 0), (2, 1)), False)
        self.check(((0, 0), (2, 0)), ((1, 1), (1, 5)), False)
        self.check(((0, 0), (2, 0)), ((3, -1), (3, 1)), False)

    def test_an_end_of_one_amid_the_other(self):
        self.check(((0, 0), (4, 0)), ((2, 0), (2, 3)), False)
        self.check(((0, 0), (4, 2)), ((2, 1), (3, 0)), False)

    def test_an_end_of_both(self):
        self.check(((0, 0), (4, 0)), ((4, 0), (4, 3)), False)
        self.check(((0, 0), (4, 0)), ((0, 0), (4, 3)), False)
        self.check(((0, 0), (4, 0)), ((4, 0), (7, 0)), False)

    def test_along_one_another(self):
        self.check(((0, 0), (4, 0)), ((2, 0), (6, 0)), False)
        self.check(((0, 0), (6, 6)), ((2, 2), (3, 3)), False)
        self.check(((0, 0), (4, 0)), ((0, 0), (2, 0)), False)

    def test_of_one_line_but_apart(self):
        self.check(((0, 0), (1, 0)), ((2, 0), (6, 0)), False)
        self.check(((0, 0), (1, 2)), ((2, 4), (3, 6)), False)

    def test_parallel(self):
        self.check(((0, 0), (4, 0)), ((0, 1), (4, 1)), False)
        self.check(((0, 0), (4, 2)), ((0, 1), (2, 2)), False)

    def test_of_no_length(self):
        self.check(((2, 0), (2, 0)), ((0, 0), (4, 0)), False)
        self.check(((2, 1), (2, 1)), ((0, 0), (4, 0)), False)
        self.check(((0, 0), (0, 0)), ((0, 0), (4, 0)), False)
        self.check(((2, 1), (2, 1)), ((2, 1), (2, 1)), False)
        self.check(((2, 1), (2, 1)), ((3, 1), (3, 1)), False)

    def test_the_same_side(self):
        self.check(((0, 0), (4, 1)), ((0, 0), (4, 1)), False)

    def test_by_very_little(self):
        # The line from (0, 0) to (FAR, FAR - 1) goes just below (FAR // 2, FAR // 2).
        half = FAR // 2
        one = ((0, 0), (FAR, FAR - 1))
        self.assertIs(do_cross(one, ((half, half), (half, -1))), True)
        self.assertIs(do_cross(one, ((half, half), (half, FAR))), False)
        self.assertIs(do_cross(((-MOST, -MOST), (MOST, MOST)), ((-MOST, MOST), (MOST, -MOST))), True)
        self.assertIs(do_cross(((-MOST, -MOST), (MOST, MOST)), ((-MOST, MOST), (0, 0))), False)
        self.assertIs(do_cross(((-MOST, -MOST), (MOST, MOST)), ((-MOST, MOST), (0, -1))), True)

    def test_each_two_sides_of_a_floor(self):
        cells = list(itertools.product(range(3), range(4)))
        sides = list(itertools.product(cells[:8], cells[4:]))
        found = 0
        for one, other in itertools.product(sides, sides):
            told = do_cross(one, other)
            self.assertIs(told, slow_cross(one, other))
            found += told
        self.assertGreater(found, 100)


THINGS = [
    None, True, False, 0, 1, -1, 10 ** 40, "", "0", "[[0]]", (), [], [[]], [()], [[0]], ([0],), ((0,),), [(0,)], [0],
    [[True]], [[False]], [["0"]], [[None]], [[[0]]], [[(0,)]], [None], ["0"], [[0], [0]], [[0], None], [[[[[0]]]]],
    [[0, "1"]], [[0, None]], [[0, (1,)]], [[0, [1]]], [[0, 10 ** 40]], [[-1, 0]], [[0] * 900], [0] * 999, [[0, True]],
]


class Holds(unittest.TestCase):
    def test_all_spots_by_each_bound(self):
        for picture in some_pictures(4, 4, 200):
            some = rounds(picture)
            for bound in (0, 1, GREAT):
                self.assertIs(holds(some, bound, all_spots(some)), True)

    def test_of_no_rounds(self):
        for thing in THINGS:
            self.assertIs(holds([], 0, thing), isinstance(thing, list) and thing == [])

    def test_a_list_of_another_length(self):
        both = all_spots(RING)
        self.assertIs(holds(RING, 0, both), True)
        for thing in (both[:1], both[1:], both + [[0]], both + [[]], []):
            self.assertIs(holds(RING, GREAT, thing), False)
        self.assertIs(holds(RING[:1], 0, both[:1]), True)
        self.assertIs(holds(RING[1:], 0, both[1:]), True)
        self.assertIs(holds(RING[:1], 0, both), False)

    def test_corners_that_are_none(self):
        for corners in ([], [1], [1, 0], [0, 2, 1], [0, 0], [0, 1, 1], [0, -1], [-1, 0], [0, 6], [0, 1, 7], [0, MOST]):
            self.assertIs(holds([LINE], GREAT, [corners]), False, corners)
        for corners in ([0], [0, 5], [0, 1, 2, 3, 4, 5]):
            self.assertIs(holds([LINE], GREAT, [corners]), True, corners)

    def test_spots_of_a_lone_cell(self):
        self.assertIs(holds([LONE], 0, [[0]]), True)
        for corners in ([], [1], [0, 1], [-1, 0], [0, 0]):
            self.assertIs(holds([LONE], GREAT, [corners]), False)

    def test_a_truth_in_the_place_of_a_number(self):
        for corners in ([False], [False, 3], [0, True], [0, True, 3]):
            self.assertIs(holds([LINE], GREAT, [corners]), False)

    def test_a_tuple_in_the_place_of_a_list(self):
        for thing in (((0, 3),), [(0, 3)], ([0, 3],)):
            self.assertIs(holds([LINE], GREAT, thing), False)

    def test_any_thing(self):
        for some in ([LINE], [LONE], RING, rounds(far_cells())):
            for thing in THINGS:
                # By this bound the begin alone does for each round; 0 == False, so what is written is looked at.
                self.assertIs(holds(some, GREAT, thing), repr(thing) == repr([[0]] * len(some)), thing)

    def test_not_near_by_the_bound(self):
        self.assertIs(holds([SQUARE], 0, [[0, 4, 8, 12]]), True)
        self.assertIs(holds([SQUARE], 0, [[0, 4, 8]]), False)
        self.assertEqual([holds([SQUARE], bound, [[0, 8]]) for bound in (7, 8)], [False, True])
        # The first is near, the second isn't.
        some = [LINE, moved(LINE, 0, 9)]
        self.assertIs(holds(some, 0, [[0, 3], [0, 3]]), True)
        self.assertIs(holds(some, 0, [[0, 3], [0]]), False)
        self.assertIs(holds(some, 0, [[0], [0, 3]]), False)

    def test_two_sides_of_one_round_that_cross(self):
        # From (0, 0) to (3, 1), and from (2, 1) to (1, 0): amid both lies (3 / 2, 1 / 2).
        self.assertIs(is_near(CROSSED, GREAT, [0, 4, 5, 6]), True)
        self.assertIs(holds([CROSSED], GREAT, [[0, 4, 5, 6]]), False)
        self.assertIs(holds([CROSSED], GREAT, [[0, 4, 5]]), True)
        self.assertIs(holds([CROSSED], GREAT, [[0, 2, 4, 5, 6]]), True)
        self.assertIs(holds([moved(CROSSED, MOST, -MOST)], GREAT, [[0, 4, 5, 6]]), False)

    def test_some_corners_of_many_rounds(self):
        some = [one for picture in all_pictures(4, 3) for one in rounds(picture)]
        crossed = 0
        for one in sorted(set(some)):
            for corners in ([0, 2, 3, 5], [0, 2, 4, 6], [0, 1, 4, 6]):
                if len(one[3]) > max(corners):
                    told = holds([one], GREAT, [corners])
                    self.assertIs(told, slow_holds([one], GREAT, [corners]))
                    crossed += not told
        self.assertGreater(crossed, 20)

    def test_two_sides_of_two_rounds_that_cross(self):
        # The first one's side from (4, 0) to (0, 5) goes amid between (2, 2) and (2, 3), the cells of the second.
        some = rounds(drawn("#....", "#....", "#.#..", "#.#..", "#....", "#####"))
        hook = ("rim", 0, 0, (0, 0, 0, 0, 4, 4, 4, 3, 2, 2, 2, 2, 6, 6, 6, 6, 6))
        self.assertEqual(some, [hook, ("rim", 2, 2, (2, 6))])
        self.assertIs(holds(some, GREAT, [[0, 4, 12], [0, 1]]), False)
        self.assertIs(holds(some, GREAT, [[0, 4, 12], [0]]), True)
        self.assertIs(holds(some, GREAT, [[0, 4, 7, 12], [0, 1]]), True)
        self.assertIs(holds(some[:1], GREAT, [[0, 4, 12]]), True)
        self.assertIs(holds(some[1:], GREAT, [[0, 1]]), True)

    def test_the_corner_of_a_hole_s_round_cut_off_by_the_rim_s_side(self):
        # The rim's side from (0, 0) to (4, 4) crosses the sides of the hole's round that keeps all spots.
        rim, hole = RING
        spots = list(range(len(hole[3])))
        self.assertIs(holds(RING, GREAT, [[0, 4, 8, 12], spots]), True)
        self.assertIs(holds([rim], GREAT, [[0, 8]]), True)
        self.assertIs(holds([hole], GREAT, [spots]), True)
        self.assertIs(holds(RING, GREAT, [[0, 8], spots]), slow_holds(RING, GREAT, [[0, 8], spots]))
        # From (1, 0) to (4, 3) it goes amid through one of them.
        self.assertIs(holds(RING, GREAT, [[0, 1, 7], spots]), False)
        self.assertIs(slow_holds(RING, GREAT, [[0, 1, 7], spots]), False)
        self.assertIs(holds([rim], GREAT, [[0, 1, 7]]), True)

    def test_each_thinning_of_small_rings(self):
        some = rounds(drawn("###", "#.#", "###"))
        for thinning in itertools.product(*[corner_lists(one) for one in some]):
            for bound in (0, 1, 2, 8):
                self.assertIs(holds(some, bound, list(thinning)), slow_holds(some, bound, list(thinning)))

    def test_each_thinning_of_small_rounds(self):
        for one in small_rounds(6):
            for corners in corner_lists(one):
                for bound in (0, 1, 3, GREAT):
                    self.assertIs(holds([one], bound, [corners]), slow_holds([one], bound, [corners]))

    def test_far_from_the_origin(self):
        for one in (SQUARE, HOOK):
            there = moved(one, -MOST, MOST)
            for corners in ([0], [0, 2, 4], [0, 1, 3], [0, 1, 2, 4]):
                for bound in (0, 1, 2, 8, 32):
                    self.assertIs(holds([there], bound, [corners]), slow_holds([one], bound, [corners]))


class Leavable(unittest.TestCase):
    def test_known_ones(self):
        self.assertEqual(leavable([], 0, []), [])
        self.assertEqual(leavable([LONE], GREAT, [[0]]), [])
        self.assertEqual(leavable([LINE], 0, [[0, 1, 2, 3, 4, 5]]), [(0, 1), (0, 2), (0, 4), (0, 5)])
        self.assertEqual(leavable([LINE], 0, [[0, 3]]), [])
        self.assertEqual(leavable([LINE], GREAT, [[0, 3]]), [(0, 3)])
        self.assertEqual(leavable([LINE, moved(LINE, 9, 0)], 0, [[0, 2, 3], [0, 3, 5]]), [(0, 2), (1, 5)])
        told = leavable([LINE, moved(LINE, 9, 0)], 9, [[0, 3], [0, 3]])
        self.assertEqual((told, {type(pair) for pair in told}), ([(0, 3), (1, 3)], {tuple}))

    def test_just_the_square_and_one_less(self):
        self.assertEqual(leavable([SQUARE], 7, [[0, 4, 8, 12]]), [])
        self.assertEqual(leavable([SQUARE], 8, [[0, 4, 8, 12]]), [(0, 4), (0, 8), (0, 12)])

    def test_tried_one_by_one_from_all_spots(self):
        for picture in some_pictures(4, 4, 80):
            some = [one for one in rounds(picture)]
            while sum(len(one[3]) for one in some) > 24:
                some.pop()
            for bound in (0, 1, 2, 9):
                self.assertEqual(leavable(some, bound, all_spots(some)), slow_leavable(some, bound, all_spots(some)))

    def test_tried_one_by_one_where_sides_would_cross(self):
        crossed = 0
        for some in (rounds(drawn("###", "#.#", "###")), rounds(drawn("####", "#..#", "##.#", ".###"))):
            thinning = all_spots(some)
            while leavable(some, 3, thinning):
                told = leavable(some, 3, thinning)
                self.assertEqual(told, slow_leavable(some, 3, thinning))
                for index, corners in enumerate(thinning):
                    alone = slow_leavable([some[index]], 3, [corners])
                    crossed += len(alone) - len([pair for pair in told if pair[0] == index])
                index, spot = told[len(told) // 2]
                thinning[index].remove(spot)
        self.assertGreater(crossed, 0)

    def test_from_each_thinning_that_holds(self):
        for one in small_rounds(6):
            for corners in corner_lists(one):
                for bound in (0, 1, 2):
                    if slow_holds([one], bound, [corners]):
                        told = leavable([one], bound, [corners])
                        self.assertEqual(told, slow_leavable([one], bound, [corners]))

    def test_rising_over_all_rounds(self):
        some = rounds(drawn("###..###", "#.#..#.#", "###..###"))
        told = leavable(some, GREAT, all_spots(some))
        self.assertEqual(told, sorted(told))
        self.assertEqual(told, slow_leavable(some, GREAT, all_spots(some)))
        self.assertEqual({index for index, spot in told}, {0, 1, 2, 3})

    def test_far_from_the_origin(self):
        some = [moved(turned(one, 1), -MOST, FAR) for one in (SQUARE,)]
        near = [turned(SQUARE, 1)]
        for bound in (0, 1, 8):
            self.assertEqual(leavable(some, bound, all_spots(some)), slow_leavable(near, bound, all_spots(near)))


if __name__ == "__main__":
    unittest.main()
