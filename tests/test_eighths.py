"""Point 24."""

import itertools
import unittest

from rimsteps.eighths import eighth
from rimsteps.reading import is_round
from rimsteps.rounds import rounds
from tests.helper import COMPASS, FAR, MOST, begin_edge, in_order, many_small_pictures, moved, slow_walk

NEXT = {0: 1, 1: 2, 2: 3, 3: 4, 4: 5, 5: 6, 6: 7, 7: 0}
OCTAGON = (0, 1, 2, 3, 4, 5, 6, 7)


def cells_along(x, y, row):
    """The cell ahead of each step, and the one behind the last one."""
    cells = [(x, y)]
    for step in row:
        cells.append(moved(cells[-1], COMPASS[step]))
    return cells


def slow_eighth(one):
    """Sought among all rounds of the picture of just the cells that such a walker comes to."""
    sort, x, y, row = one
    further = [NEXT[step] for step in row]
    cells = cells_along(x, y, further)
    picture = in_order(set(cells))
    wanted = list(zip(cells, further))
    for other in rounds(picture):
        edges, deeds = slow_walk(picture, begin_edge(other))
        gone = [((ex, ey), deed) for (ex, ey, way), deed in zip(edges, deeds) if deed is not None]
        if row and other[0] == sort and wanted in [gone[at:] + gone[:at] for at in range(len(gone))]:
            return other
    return None


class Known(unittest.TestCase):
    def test_rims_that_have_one(self):
        self.assertEqual(eighth(("rim", 0, 0, (0, 4))), ("rim", 0, 0, (1, 5)))
        self.assertEqual(eighth(("rim", 0, 0, (1, 5))), ("rim", 0, 0, (2, 6)))
        self.assertEqual(eighth(("rim", 0, 0, (2, 6))), ("rim", 0, 0, (3, 7)))
        self.assertEqual(eighth(("rim", 0, 0, (0, 2, 4, 6))), ("rim", 0, 0, (1, 3, 5, 7)))
        self.assertEqual(eighth(("rim", 0, 0, (0, 0, 2, 2, 4, 4, 6, 6))), ("rim", 0, 0, (1, 1, 3, 3, 5, 5, 7, 7)))

    def test_begun_at_another_cell_than_the_first_one(self):
        # The walker begins at (0, 0) all the same, and goes to the left.
        self.assertEqual(eighth(("rim", 0, 0, (3, 7))), ("rim", -1, 0, (0, 4)))
        self.assertEqual(eighth(("rim", 0, 0, (1, 3, 5, 7))), ("rim", -1, 0, (0, 2, 4, 6)))
        self.assertEqual(eighth(("rim", 0, 0, OCTAGON)), ("rim", -1, 0, OCTAGON))

    def test_a_hole_s_round_that_has_one(self):
        self.assertEqual(eighth(("hole", 2, 0, (3, 2, 1, 0, 7, 6, 5, 4))), ("hole", 1, 0, (3, 2, 1, 0, 7, 6, 5, 4)))

    def test_far_away(self):
        self.assertEqual(eighth(("rim", MOST, -MOST, (1, 3, 5, 7))), ("rim", MOST - 1, -MOST, (0, 2, 4, 6)))
        self.assertEqual(eighth(("rim", -FAR, FAR, (0, 4))), ("rim", -FAR, FAR, (1, 5)))

    def test_a_row_without_steps(self):
        self.assertIsNone(eighth(("rim", 5, -3, ())))

    def test_the_way_doesn_t_close(self):
        # (0, 0), (1, 0), (1, 1): by an eighth up to the right, up to the left, down, which ends at (0, 1).
        self.assertIsNone(eighth(("rim", 0, 0, (0, 2, 5))))
        self.assertIsNone(eighth(("rim", 0, 0, (0, 0, 2, 5, 4))))

    def test_the_way_gainsays_itself(self):
        # (0, 0), (1, 1), (-1, 1): by an eighth up, down, left, right; going down it sees a gap where it then goes left.
        self.assertIsNone(eighth(("rim", 0, 0, (1, 5, 3, 7))))
        self.assertIsNone(eighth(("hole", 1, 0, (3, 1, 0, 7, 5, 4))))

    def test_the_way_closes_but_it_is_a_rim_s(self):
        # The slant steps round one gap become the straight ones of a square, gone round by the right.
        self.assertIsNone(eighth(("hole", 1, 0, (3, 1, 7, 5))))

    def test_closed_and_turned_as_often_but_over_a_cell_seen_as_a_gap(self):
        # A thin hook, walked there and back. By an eighth its straight arms grow and its slant ones shrink, so that
        # its end comes down through its beginning.
        steps = (0,) * 10 + (1,) * 4 + (2,) + (3,) * 3 + (4,) * 4 + (5,) + (6,) * 5
        back = tuple({0: 4, 1: 5, 2: 6, 3: 7, 4: 0, 5: 1, 6: 2}[step] for step in steps[::-1])
        hook = in_order(cells_along(0, 0, steps))
        self.assertEqual(rounds(hook), [("rim", 0, 0, steps + back)])
        self.assertIsNone(slow_eighth(("rim", 0, 0, steps + back)))
        self.assertIsNone(eighth(("rim", 0, 0, steps + back)))
        # With a shorter end there is room.
        shorter = ("rim", 0, 0, steps[:-3] + back[3:])
        self.assertIsNotNone(slow_eighth(shorter))
        self.assertEqual(eighth(shorter), slow_eighth(shorter))

    def test_sums_closed_by_chance(self):
        found = 0
        for picture in many_small_pictures():
            for one in rounds(picture):
                sort, x, y, row = one
                further = [NEXT[step] for step in row]
                if row and cells_along(x, y, further)[-1] == (x, y) and slow_eighth(one) is None:
                    self.assertIsNone(eighth(one))
                    found += 1
        self.assertGreater(found, 100)


class Many(unittest.TestCase):
    def test_as_told_slowly(self):
        found = {True: 0, False: 0}
        for picture in many_small_pictures():
            for one in rounds(picture):
                told = eighth(one)
                self.assertEqual(told, slow_eighth(one))
                found[told is None] += 1
        self.assertGreater(found[True], 1000)
        self.assertGreater(found[False], 1000)

    def test_what_is_told_is_a_round_of_the_same_sort(self):
        for picture in many_small_pictures():
            for one in rounds(picture):
                told = eighth(one)
                if told is not None:
                    self.assertIs(is_round(told), True)
                    self.assertEqual(told[0], one[0])

    def test_short_rows(self):
        for sort, many in itertools.product(("rim", "hole"), range(5)):
            for row in itertools.product(range(8), repeat=many):
                if is_round((sort, 3, -3, row)):
                    self.assertEqual(eighth((sort, 3, -3, row)), slow_eighth((sort, 3, -3, row)))


if __name__ == "__main__":
    unittest.main()
