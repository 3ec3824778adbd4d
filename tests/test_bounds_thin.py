"""Points 2 and 3 of likeness, joins and thinning: nothing handed in is changed, what is told is one's own, soon."""

import unittest

from rimsteps.joins import apart, common, joined, put, taken, without
from rimsteps.likeness import alike, alike_all, own_turns
from rimsteps.moves import mirrored, moved, moved_all, turned, turned_all
from rimsteps.rounds import rounds
from rimsteps.thin import fewest, thinned
from rimsteps.thinlooks import do_cross, holds, is_near, leavable
from tests.helper import (
    FAR, MOST, OwnLists, all_spots, chess_floor, drawn, far_cells, far_squares, floor, great_lists, great_rounds,
    in_order, slow_holds, slow_leavable, some_pictures, soon, square_ring,
)

GREAT = 1000000
NESTED = rounds(drawn("#####", "#...#", "#.#.#", "#...#", "#####"))
LINE = ("rim", 0, 0, (0, 0, 0, 4, 4, 4))
TWELVE = ("rim", 0, 0, (0, 0, 0, 2, 2, 2, 4, 4, 4, 6, 6, 6))

# Each deed, and lists that are handed in.
DEEDS = {
    "alike_all": (alike_all, [NESTED, turned_all(NESTED, 1)]),
    "own_turns": (own_turns, [NESTED]),
    "own_turns of none": (own_turns, [[]]),
    "joined": (joined, [NESTED, rounds([(2, 1)])]),
    "joined to none": (joined, [NESTED, []]),
    "joined none": (joined, [[], NESTED]),
    "common": (common, [NESTED, NESTED]),
    "without": (without, [NESTED, []]),
    "apart": (apart, [NESTED, []]),
    "put": (lambda some: put(some, 9, 9), [NESTED]),
    "taken": (lambda some: taken(some, 2, 2), [NESTED]),
    "is_near": (lambda corners: is_near(LINE, 1, corners), [[0, 3]]),
    "holds": (lambda some, thing: holds(some, 1, thing), [NESTED, all_spots(NESTED)]),
    "leavable": (lambda some, thinning: leavable(some, 1, thinning), [NESTED, all_spots(NESTED)]),
    "thinned": (lambda some: thinned(some, 1), [NESTED]),
    "thinned not at all": (lambda some: thinned(some, 0), [[("rim", 0, 0, (0, 2, 4, 6))]]),
    "fewest": (lambda: fewest(LINE, 1), []),
}


class Untouched(OwnLists, unittest.TestCase):
    deeds = DEEDS

    def test_the_empty_list_handed_in_is_not_the_one_told(self):
        empty = []
        for deed in (joined, common, without, apart):
            self.assertIsNot(deed(empty, empty), empty)
        self.assertIsNot(thinned(empty, 0), empty)
        self.assertIsNot(leavable(empty, 0, empty), empty)


class Bounds(unittest.TestCase):
    def test_rounds_of_240_steps_alike(self):
        for one in great_rounds():
            for other in (one, moved(mirrored(turned(one, 3)), MOST, 1)):
                with soon(self):
                    self.assertIsNotNone(alike(one, other))
            with soon(self):
                self.assertIsNone(alike(one, ("rim", 0, 0, ())))

    def test_lists_of_120_rounds_alike(self):
        for title, some in great_lists().items():
            with self.subTest(title=title), soon(self):
                self.assertIsNotNone(alike_all(some, moved_all(turned_all(some, 3), 1, -FAR)))
                self.assertEqual(own_turns(some)[0], (False, 0))

    def test_120_rounds_of_240_steps(self):
        some = far_squares()
        others = some[:-1] + [moved(some[-1], 1, 0)]
        with soon(self, 5):
            self.assertIsNone(alike_all(some, others))
        with soon(self, 5):
            self.assertEqual(own_turns(some), [(False, 0), (False, 2), (True, 0), (True, 2)])
        with soon(self):
            self.assertEqual(put(some, 30, -1)[1], some[:1])
        with soon(self):
            self.assertEqual([len(part) for part in taken(some, 30, 30)], [121, 0, 1])

    def test_pictures_of_120_cells_together(self):
        chess = chess_floor()
        for cells, others in ((chess[::2], chess[1::2]), (far_cells()[:60], far_cells()[60:]),
                              (floor(12, 5), [(x, y + 5) for x, y in floor(12, 5)]), (chess, []), (chess, chess)):
            some, more = rounds(cells), rounds(others)
            with soon(self):
                self.assertEqual(joined(some, more), rounds(in_order(set(cells) | set(others))))
                self.assertEqual(common(some, more), rounds(in_order(set(cells) & set(others))))
                self.assertEqual(without(some, more), rounds(in_order(set(cells) - set(others))))
                self.assertEqual(apart(some, more), rounds(in_order(set(cells) ^ set(others))))

    def test_a_cell_put_and_taken_again(self):
        for title, some in great_lists().items():
            with self.subTest(title=title), soon(self):
                more, left, come = put(some, MOST, -MOST)
                self.assertEqual(taken(more, MOST, -MOST), (some, come, left))

    def test_each_of_120_cells_taken(self):
        for picture in (far_cells(), floor(12, 10), chess_floor()):
            with soon(self):
                some = rounds(picture)
                for x, y in picture:
                    some = taken(some, x, y)[0]
                self.assertEqual(some, [])

    def test_near_corners_of_240_steps(self):
        for one in great_rounds():
            spots = list(range(len(one[3])))
            for corners in ([0], spots, spots[::2], spots[::7], [0, len(spots) - 1]):
                for bound in (0, GREAT):
                    with soon(self):
                        is_near(one, bound, corners)

    def test_sides_far_off(self):
        with soon(self):
            for times in range(1000):
                do_cross(((-MOST, times), (MOST, -times)), ((times, MOST), (-times, -MOST)))

    def test_forty_steps_thinned(self):
        lists = [[("rim", 0, 0, (0,) * 10 + (2,) * 10 + (4,) * 10 + (6,) * 10)],
                 [("rim", 0, 0, (1,) * 20 + (5,) * 20)],
                 rounds(in_order(square_ring(6, 0)) + [(9, 9), (10, 10)]),
                 rounds([(4 * x + right, 4 * y) for y in range(4) for x in range(5) for right in (0, 1)])]
        for picture in some_pictures(9, 8, 40):
            some = [one for one in rounds(picture) if len(one[3]) <= 40]
            while sum(len(one[3]) for one in some) > 40:
                some.pop(0)
            lists.append(some)
        self.assertIn(40, [sum(len(one[3]) for one in some) for some in lists])
        for some in lists:
            self.assertLessEqual(sum(len(one[3]) for one in some), 40)
            for bound in (0, 1, 4, GREAT):
                with soon(self):
                    told = thinned(some, bound)
                    self.assertIs(holds(some, bound, told), True)
                    self.assertEqual(leavable(some, bound, told), [])
                    self.assertIs(holds(some, bound, all_spots(some)), True)
                    leavable(some, bound, all_spots(some))

    def test_many_lone_cells_and_forty_steps(self):
        forty = ("rim", FAR // 2, FAR // 2, (1,) * 10 + (3,) * 10 + (5,) * 10 + (7,) * 10)
        some = sorted(rounds(far_cells()[1:]) + [forty], key=lambda one: (one[2], one[1]))
        for bound in (0, 1, GREAT):
            with soon(self):
                told = thinned(some, bound)
                self.assertIs(holds(some, bound, told), True)
                self.assertEqual(leavable(some, bound, told), [])

    def test_the_fewest_of_ten_steps(self):
        for one in (("rim", 0, 0, (0,) * 5 + (4,) * 5), ("rim", 0, 0, (0, 0, 0, 2, 2, 4, 4, 4, 6, 6)), TWELVE):
            for bound in (0, 1, 2, 5, GREAT):
                with soon(self):
                    fewest(one, bound)
        self.assertEqual(fewest(TWELVE, 0), [0, 3, 6, 9])

    def test_any_thing_of_a_thousand_things(self):
        deep = [[[[["a", None, True]]]]] * 150
        for thing in (deep, [[0]] * 120, [[0] * 900], [list(range(900))], ["0"] * 999, [[MOST] * 8] * 120):
            with soon(self):
                self.assertIs(holds(rounds(far_cells()), 0, thing), thing == [[0]] * 120)

    def test_held_against_the_slow_way_at_the_bound(self):
        some = rounds(in_order(square_ring(6, 0)))
        told = thinned(some, 2)
        self.assertTrue(slow_holds(some, 2, told))
        self.assertEqual(slow_leavable(some, 2, told), [])


if __name__ == "__main__":
    unittest.main()
