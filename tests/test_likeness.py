"""Points 27 and 28."""

import itertools
import unittest

from rimsteps.likeness import alike, alike_all, own_turns
from rimsteps.moves import mirrored, mirrored_all, moved, moved_all, turned, turned_all
from rimsteps.reading import edges_of
from rimsteps.rounds import rounds
from tests.helper import (
    FAR, MOST, all_pictures, drawn, great_rounds, in_order, mirrored_cells, mirrored_edges, moved_cells, moved_edges,
    some_pictures, turned_cells, turned_edges,
)

LONE = ("rim", 0, 0, ())
SQUARE = ("rim", 0, 0, (0, 2, 4, 6))
LINE = ("rim", 0, 0, (0, 0, 4, 4))
HOOK = ("rim", 0, 0, (0, 0, 2, 5, 4))
HOLE = ("hole", 1, 0, (3, 1, 7, 5))
LONG_HOLE = ("hole", 1, 0, (3, 1, 0, 7, 5, 4))
EIGHT = [(mirror, quarters) for mirror in (False, True) for quarters in range(4)]


def slow_alike(one, other):
    """The first tuple by which the edges of the one become those of the other, tried one by one."""
    for mirror, quarters in EIGHT:
        edges = set(edges_of(one))
        if mirror:
            edges = mirrored_edges(edges)
        for quarter in range(quarters):
            edges = turned_edges(edges)
        goal = set(edges_of(other))
        dx, dy = [min(edge[at] for edge in goal) - min(edge[at] for edge in edges) for at in (0, 1)]
        if moved_edges(edges, dx, dy) == goal:
            return (mirror, quarters, dx, dy)
    return None


def slow_alike_all(picture, other):
    """The same of the cells of two pictures that have some."""
    for mirror, quarters in EIGHT:
        cells = turned_cells(mirrored_cells(picture) if mirror else picture, quarters)
        dx, dy = [min(cell[at] for cell in other) - min(cell[at] for cell in cells) for at in (0, 1)]
        if moved_cells(cells, dx, dy) == other:
            return (mirror, quarters, dx, dy)
    return None


def slow_turns(picture):
    told = []
    for mirror, quarters in EIGHT:
        cells = turned_cells(mirrored_cells(picture) if mirror else picture, quarters)
        dx, dy = [min(cell[at] for cell in picture) - min(cell[at] for cell in cells) for at in (0, 1)]
        if moved_cells(cells, dx, dy) == picture:
            told.append((mirror, quarters))
    return told


def are_kinds(told):
    return [type(part) for part in told] == [bool, int, int, int]


class Alike(unittest.TestCase):
    def test_known_ones(self):
        self.assertEqual(alike(LONE, ("rim", 5, -3, ())), (False, 0, 5, -3))
        self.assertEqual(alike(HOOK, moved(HOOK, 4, 9)), (False, 0, 4, 9))
        # Turned by a quarter (0, 0) stays; the begin of the vertical one is there.
        self.assertEqual(alike(LINE, ("rim", 7, 8, (2, 2, 6, 6))), (False, 1, 7, 8))
        self.assertEqual(alike(HOOK, turned(HOOK, 1)), (False, 1, 0, 0))
        self.assertEqual(alike(HOOK, turned(HOOK, 2)), (False, 2, 0, 0))
        self.assertEqual(alike(HOOK, turned(HOOK, 3)), (False, 3, 0, 0))
        self.assertEqual(alike(HOOK, ("rim", -2, 0, (0, 0, 4, 3, 6))), (True, 0, 0, 0))
        self.assertEqual(alike(HOOK, moved(turned(mirrored(HOOK), 3), 6, -7)), (True, 3, 6, -7))

    def test_turned_then_moved_not_moved_then_turned(self):
        self.assertEqual(alike(moved(HOOK, 10, 0), turned(HOOK, 1)), (False, 1, 0, -10))
        self.assertEqual(alike(moved(HOOK, 10, 0), mirrored(HOOK)), (True, 0, 10, 0))

    def test_mirrored_then_turned(self):
        other = turned(mirrored(HOOK), 1)
        self.assertEqual(alike(HOOK, other), (True, 1, 0, 0))
        self.assertEqual(alike(HOOK, mirrored(turned(HOOK, 1))), (True, 3, 0, 0))

    def test_the_first_where_several_would_do(self):
        for one in (LONE, SQUARE, LINE, HOLE, great_rounds()[0]):
            self.assertEqual(alike(one, moved(one, -2, 5)), (False, 0, -2, 5))
        # A line upright is the lying one turned by a quarter, by three, and either mirrored.
        self.assertEqual(alike(LINE, ("rim", 0, 0, (2, 2, 6, 6))), (False, 1, 0, 0))
        # This one is its own mirrored one, so the upright one comes by turns alone.
        roof = ("rim", 0, 0, (0, 0, 3, 5))
        self.assertEqual(alike(roof, turned(roof, 3)), (False, 3, 0, 0))
        self.assertEqual(alike(roof, mirrored(roof)), (False, 0, -2, 0))

    def test_a_hole_s_round_and_a_hole_s_round(self):
        self.assertEqual(alike(LONG_HOLE, moved(turned(LONG_HOLE, 1), 5, 5)), (False, 1, 5, 5))
        self.assertEqual(alike(HOLE, moved(HOLE, 0, 1)), (False, 0, 0, 1))
        self.assertIsNone(alike(HOLE, LONG_HOLE))

    def test_of_unlike_sorts_none(self):
        # A hole's round and a rim that have the same steps, gone round.
        ring, hole = rounds(drawn(".#.", "#.#", ".#."))
        self.assertIsNone(alike(ring, hole))
        self.assertIsNone(alike(hole, ring))
        self.assertIsNone(alike(("rim", 1, 0, (1, 3, 5, 7)), ("hole", 1, 0, (3, 1, 7, 5))))

    def test_of_unlike_shapes_none(self):
        for one, other in itertools.combinations([LONE, SQUARE, LINE, HOOK, ("rim", 1, 0, (3, 7))], 2):
            self.assertIsNone(alike(one, other))
            self.assertIsNone(alike(other, one))
        # As many steps of each kind, in another order.
        self.assertIsNone(alike(("rim", 0, 0, (0, 0, 2, 4, 4, 6)), ("rim", 0, 0, (0, 2, 4, 0, 6, 4))))

    def test_thirty_figures(self):
        for one in (HOOK, LONG_HOLE):
            for mirror, quarters in EIGHT:
                other = turned(mirrored(one) if mirror else one, quarters)
                told = alike(one, moved(other, MOST, -MOST))
                self.assertEqual(told, alike(one, other)[:2] + tuple(
                    part + more for part, more in zip(alike(one, other)[2:], (MOST, -MOST))))
                self.assertTrue(are_kinds(told))
        self.assertEqual(alike(moved(HOOK, -MOST, MOST), moved(HOOK, MOST, MOST)), (False, 0, 2 * MOST, 0))

    def test_a_truth_and_three_whole_numbers(self):
        self.assertTrue(are_kinds(alike(LONE, LONE)))
        self.assertTrue(are_kinds(alike(HOOK, mirrored(HOOK))))
        self.assertTrue(are_kinds(alike_all([], [])))
        self.assertTrue(are_kinds(alike_all([HOOK], [mirrored(HOOK)])))

    def test_each_two_small_rounds(self):
        some = sorted({one for picture in all_pictures(3, 3) for one in rounds(picture)})
        some = [one for one in some if one[0] == "hole" or one[1:3] == (1, 0)]
        found = 0
        for one, other in itertools.product(some, some):
            if len(one[3]) == len(other[3]):
                told = alike(one, other)
                self.assertEqual(told, slow_alike(one, other) if one[0] == other[0] else None)
                found += told is not None
        self.assertGreater(found, 200)

    def test_each_turn_of_greater_ones(self):
        for picture in some_pictures(5, 5, 60):
            for one in rounds(picture):
                for mirror, quarters in EIGHT:
                    other = moved(turned(mirrored(one) if mirror else one, quarters), 3, -FAR)
                    self.assertEqual(alike(one, other), slow_alike(one, other))


class AlikeAll(unittest.TestCase):
    def test_none_and_none(self):
        self.assertEqual(alike_all([], []), (False, 0, 0, 0))

    def test_just_one_has_none(self):
        self.assertIsNone(alike_all([], [LONE]))
        self.assertIsNone(alike_all([LONE], []))

    def test_lists_of_unlike_lengths(self):
        three = rounds([(0, 0), (5, 0), (10, 0)])
        self.assertIsNone(alike_all(three, three[:2]))
        self.assertIsNone(alike_all(three[:2], three))

    def test_all_by_the_same_tuple(self):
        picture = drawn("##..#", "#....", "#..##")
        some = rounds(picture)
        for mirror, quarters in EIGHT:
            others = moved_all(turned_all(mirrored_all(some) if mirror else some, quarters), -4, FAR)
            self.assertEqual(alike_all(some, others), (mirror, quarters, -4, FAR))

    def test_the_order_of_the_rounds_may_change(self):
        some = rounds([(0, 0), (5, 0), (6, 0)])
        others = rounds([(0, 0), (1, 0), (6, 0)])
        self.assertEqual(alike_all(some, others), (False, 2, 6, 0))

    def test_each_has_a_like_one_but_no_tuple_does_for_all(self):
        # Farther apart.
        some, others = rounds([(0, 0), (1, 0), (5, 0)]), rounds([(0, 0), (1, 0), (6, 0)])
        self.assertEqual([alike(one, other) is None for one, other in zip(some, others)], [False, False])
        self.assertIsNone(alike_all(some, others))
        # One of them turned alone, at the same begin.
        some, others = rounds([(0, 0), (1, 0), (5, 0), (6, 0)]), rounds([(0, 0), (1, 0), (5, 0), (5, 1)])
        self.assertIsNone(alike_all(some, others))
        # One of them mirrored alone.
        hooks = rounds(drawn("##.##", "#...#", "#...#"))
        same = rounds(drawn("##.##", "#..#.", "#..#."))
        self.assertEqual([alike(one, other) is None for one, other in zip(hooks, same)], [False, False])
        self.assertIsNone(alike_all(hooks, same))

    def test_each_two_pictures_of_a_floor(self):
        pictures = [picture for picture in all_pictures(3, 2) if picture]
        for picture, other in itertools.product(pictures, pictures):
            self.assertEqual(alike_all(rounds(picture), rounds(other)), slow_alike_all(picture, other))

    def test_greater_pictures_turned_and_changed(self):
        for at, picture in enumerate(some_pictures(6, 5, 120)):
            if not picture:
                continue
            other = turned_cells(mirrored_cells(picture) if at % 2 else picture, at % 4)
            other = moved_cells(other, at, -at)
            self.assertEqual(alike_all(rounds(picture), rounds(other)), slow_alike_all(picture, other))
            if len(picture) > 1:
                fewer = other[1:]
                self.assertEqual(alike_all(rounds(picture), rounds(fewer)), None)
                self.assertEqual(alike_all(rounds(picture[1:]), rounds(fewer)), slow_alike_all(picture[1:], fewer))


class OwnTurns(unittest.TestCase):
    def test_of_no_rounds_all_eight(self):
        told = own_turns([])
        self.assertEqual(told, EIGHT)
        self.assertEqual({(type(turn), type(turn[0]), type(turn[1])) for turn in told}, {(tuple, bool, int)})

    def test_one(self):
        self.assertEqual(own_turns([HOOK]), [(False, 0)])

    def test_two(self):
        self.assertEqual(own_turns(rounds(drawn(".##", "##."))), [(False, 0), (False, 2)])
        self.assertEqual(own_turns(rounds(drawn(".#.", "###"))), [(False, 0), (True, 0)])
        self.assertEqual(own_turns(rounds(drawn("#.", "##", "#."))), [(False, 0), (True, 2)])
        self.assertEqual(own_turns(rounds(drawn("#.", "##"))), [(False, 0), (True, 3)])
        self.assertEqual(own_turns(rounds(drawn(".#", "##"))), [(False, 0), (True, 1)])

    def test_four(self):
        self.assertEqual(own_turns([LINE]), [(False, 0), (False, 2), (True, 0), (True, 2)])
        self.assertEqual(own_turns([("rim", 0, 0, (1, 5))]), [(False, 0), (False, 2), (True, 1), (True, 3)])
        wheel = rounds(drawn("##.#", "...#", "#...", "#.##"))
        self.assertEqual(own_turns(wheel), [(False, 0), (False, 1), (False, 2), (False, 3)])

    def test_eight(self):
        four = drawn("#.#", "...", "#.#")
        for picture in ([(0, 0)], [(FAR, -FAR)], drawn("##", "##"), drawn("###", "#.#", "###"), four):
            self.assertEqual(own_turns(rounds(picture)), EIGHT)

    def test_holes_count(self):
        # The rim alone would do by all eight.
        self.assertEqual(own_turns(rounds(drawn("####", "#.##", "####", "####"))), [(False, 0), (True, 1)])
        self.assertEqual(own_turns(rounds(drawn("#####", "#.###", "#####"))), [(False, 0), (True, 2)])

    def test_each_picture_of_a_floor(self):
        for picture in all_pictures(3, 3):
            if picture:
                self.assertEqual(own_turns(rounds(picture)), slow_turns(picture))

    def test_greater_ones(self):
        for picture in some_pictures(4, 4, 60):
            both = in_order(set(picture) | set(moved_cells(turned_cells(picture, 2), 3, 3)))
            for cells in (picture, both, moved_cells(both, FAR, -FAR)):
                if cells:
                    self.assertEqual(own_turns(rounds(cells)), slow_turns(cells))


if __name__ == "__main__":
    unittest.main()
