"""Points 35 and 36."""

import itertools
import unittest

from rimsteps.moves import moved
from rimsteps.rounds import rounds
from rimsteps.thin import fewest, thinned
from rimsteps.thinlooks import holds, leavable
from tests.helper import (
    FAR, MOST, all_pictures, all_spots, drawn, far_cells, floor, in_order, slow_holds, slow_leavable, some_pictures,
    square_ring,
)

GREAT = 1000000
LONE = ("rim", 0, 0, ())
LINE = ("rim", 0, 0, (0, 0, 0, 4, 4, 4))
FORTY = ("rim", 0, 0, (0,) * 10 + (2,) * 10 + (4,) * 10 + (6,) * 10)


def few_steps(some, most):
    """The first of the rounds, that together have at most so many steps."""
    told = []
    for one in some:
        if sum(len(other[3]) for other in told + [one]) <= most:
            told.append(one)
    return told


def slow_fewest(one, bound):
    """All corners of the round gone through."""
    spots = range(1, max(1, len(one[3])))
    lists = [[0] + list(more) for many in range(len(spots) + 1) for more in itertools.combinations(spots, many)]
    told = [corners for corners in lists if slow_holds([one], bound, [corners])]
    return min(told, key=lambda corners: (len(corners), corners))


class Thinned(unittest.TestCase):
    def check(self, some, bound):
        told = thinned(some, bound)
        self.assertEqual([type(told)] + [type(corners) for corners in told], [list] + [list] * len(some))
        self.assertIs(holds(some, bound, told), True)
        self.assertEqual(leavable(some, bound, told), [])
        self.assertTrue(slow_holds(some, bound, told))
        self.assertEqual(slow_leavable(some, bound, told), [])
        self.assertEqual(thinned(some, bound), told)
        return told

    def test_of_no_rounds(self):
        self.assertEqual(thinned([], 0), [])
        self.assertEqual(thinned([], GREAT), [])

    def test_lone_cells(self):
        self.assertEqual(self.check([LONE], 0), [[0]])
        self.assertEqual(self.check([LONE, ("rim", 5, 0, ())], GREAT), [[0], [0]])

    def test_by_0_straight_rows_alone_lose_their_spots(self):
        self.assertEqual(self.check([LINE], 0), [[0, 3]])
        self.assertEqual(self.check([FORTY], 0), [[0, 10, 20, 30]])
        self.check([("rim", 0, 0, (0, 0, 2, 5, 4))], 0)

    def test_by_a_million_the_begins_alone_stay(self):
        self.assertEqual(self.check([FORTY], GREAT), [[0]])
        self.assertEqual(self.check([LINE, moved(LINE, 0, 5)], GREAT), [[0], [0]])
        self.assertEqual(self.check(rounds(drawn("###", "#.#", "###")), GREAT), [[0], [0]])

    def test_small_pictures(self):
        for picture in all_pictures(3, 3):
            self.check(few_steps(rounds(picture), 40), 1)

    def test_forty_steps_together(self):
        for picture in some_pictures(7, 6, 40):
            some = few_steps(rounds(picture), 40)
            for bound in (0, 1, 2, 5):
                self.check(some, bound)

    def test_one_around_another(self):
        some = rounds(in_order(square_ring(5, 0) + [(2, 2)]))
        self.assertEqual((len(some), sum(len(one[3]) for one in some)), (3, 28))
        for bound in (0, 1, 2, 3, 4, 8, 16, GREAT):
            self.check(some, bound)

    def test_some_of_a_picture_s_rounds(self):
        some = rounds(in_order(square_ring(5, 0) + [(2, 2), (7, 0), (8, 0), (8, 1)]))
        self.assertEqual(len(some), 4)
        for many in range(4):
            for part in itertools.combinations(some, many):
                for bound in (0, 1, 3):
                    self.check(list(part), bound)

    def test_where_sides_would_cross(self):
        # Alone each would be thinned to fewer corners than beside the others.
        some = rounds(drawn("#....", "#....", "#.#..", "#.#..", "#....", "#####"))
        for bound in (0, 1, 2, 3, 4, 5, 8):
            self.check(some, bound)

    def test_far_from_the_origin(self):
        for picture in (floor(5, 4), drawn("##.", "#.#", "###")):
            some = rounds(picture)
            there = [moved(one, MOST, -MOST) for one in some]
            for bound in (0, 1, 2):
                self.assertEqual(self.check(there, bound), thinned(some, bound))

    def test_lone_cells_far_apart_and_forty_steps(self):
        some = rounds(far_cells()[:110])
        some = sorted(some + [moved(FORTY, FAR // 2, FAR // 2)], key=lambda one: (one[2], one[1]))
        told = thinned(some, 0)
        self.assertIs(holds(some, 0, told), True)
        self.assertEqual(leavable(some, 0, told), [])
        self.assertEqual(sorted(told), [[0]] * 110 + [[0, 10, 20, 30]])

    def test_fewer_than_all_spots_where_it_can_be(self):
        self.assertLess(len(thinned([FORTY], 1)[0]), 40)
        for picture in some_pictures(5, 5, 40):
            some = few_steps(rounds(picture), 40)
            for bound in (0, 1):
                if slow_leavable(some, bound, all_spots(some)):
                    self.assertNotEqual(thinned(some, bound), all_spots(some))


class Fewest(unittest.TestCase):
    def test_known_ones(self):
        self.assertEqual(fewest(LONE, 0), [0])
        self.assertEqual(fewest(LONE, GREAT), [0])
        self.assertEqual(fewest(LINE, 0), [0, 3])
        # From (0, 0) to (2, 0) and back: (3, 0) by the square 1; the begin alone: by 9.
        self.assertEqual(fewest(LINE, 1), [0, 2])
        self.assertEqual(fewest(LINE, 4), [0, 1])
        self.assertEqual([fewest(LINE, bound) for bound in (8, 9)], [[0, 1], [0]])
        self.assertEqual(fewest(("rim", 0, 0, (0, 2, 4, 6)), 0), [0, 1, 2, 3])
        self.assertEqual(fewest(("rim", 0, 0, (0, 2, 4, 6)), 1), [0, 1])
        self.assertEqual(fewest(("rim", 0, 0, (0, 0, 2, 2, 4, 4, 6, 6)), 0), [0, 2, 4, 6])
        self.assertEqual(fewest(("hole", 1, 0, (3, 1, 7, 5)), 0), [0, 1, 2, 3])

    def test_the_least_list_of_the_fewest(self):
        # By 4 of the greatest square (2, 0), (2, 1), (2, 2) and all behind them would do beside 0.
        one = ("rim", 0, 0, (0, 0, 2, 2, 4, 4, 6, 6))
        self.assertEqual(fewest(one, 4), slow_fewest(one, 4))
        self.assertEqual(len(fewest(one, 4)), 2)
        self.assertGreater(len([spot for spot in range(1, 8) if slow_holds([one], 4, [[0, spot]])]), 1)

    def test_each_small_round_against_all_corners(self):
        some = {one for picture in all_pictures(3, 3) for one in rounds(picture) if len(one[3]) <= 8}
        some = {(sort, row): (sort, x, y, row) for sort, x, y, row in some}.values()
        for one in sorted(some):
            for bound in (0, 1, 2):
                told = fewest(one, bound)
                self.assertEqual(told, slow_fewest(one, bound))
                self.assertIs(type(told), list)

    def test_ten_steps(self):
        some = {one for picture in some_pictures(5, 4, 150) for one in rounds(picture) if len(one[3]) in (9, 10)}
        self.assertGreater(len(some), 10)
        for one in sorted(some)[:24]:
            for bound in (0, 1, 3):
                self.assertEqual(fewest(one, bound), slow_fewest(one, bound))

    def test_sides_that_would_cross(self):
        # Without the crossing fewer, or a lesser list, would do.
        some = {one for picture in all_pictures(4, 3) for one in rounds(picture) if len(one[3]) in (7, 8)}
        some = {(sort, row): (sort, x, y, row) for sort, x, y, row in some}.values()
        for one in sorted(some)[::3]:
            self.assertEqual(fewest(one, 1), slow_fewest(one, 1))

    def test_far_from_the_origin(self):
        for one in (LINE, ("rim", 0, 0, (0, 0, 2, 2, 4, 4, 6, 6)), ("hole", 1, 0, (3, 1, 0, 7, 5, 4))):
            for bound in (0, 1, 2, 4, 8, GREAT):
                self.assertEqual(fewest(moved(one, -MOST, FAR), bound), fewest(one, bound))
                self.assertEqual(fewest(one, bound), slow_fewest(one, bound))


if __name__ == "__main__":
    unittest.main()
