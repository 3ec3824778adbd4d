"""Points 19 to 21."""

import unittest
from fractions import Fraction
from math import gcd

from rimsteps.measures import box, box_of, lengths, middle, pieces_less_holes, spread, sums_of, sums_within
from rimsteps.rounds import rounds
from tests.helper import (
    FAR, MOST, begin_edge, drawn, far_cells, floor, four_rings, great_lists, great_pictures, many_small_pictures,
    mirrored_cells, moved_cells, slow_holes, slow_pieces, slow_walk, slow_within, some_pictures, turned_cells,
)

RING = drawn("###", "#.#", "###")
LONE = ("rim", 5, -3, ())


def slow_sums(cells):
    return (
        len(cells),
        sum(x for x, y in cells),
        sum(y for x, y in cells),
        sum(x * x for x, y in cells),
        sum(x * y for x, y in cells),
        sum(y * y for x, y in cells),
    )


def slow_spread(cells):
    """The same numbers from all pairs of cells: each pair's distances, multiplied and halved."""
    pairs = [(x - other_x, y - other_y) for x, y in cells for other_x, other_y in cells]
    return tuple(sum(wide[left] * wide[right] for wide in pairs) // 2 for left, right in ((0, 0), (0, 1), (1, 1)))


def pictures_about():
    """Small pictures, with cells at either side of nought."""
    for picture in many_small_pictures():
        yield moved_cells(picture, -2, -1)
    yield from some_pictures(5, 5, 100)


class Sums(unittest.TestCase):
    def test_a_lone_cell(self):
        self.assertEqual(sums_within(LONE), (1, 5, -3, 25, -15, 9))
        self.assertEqual(sums_within(("rim", 0, 0, ())), (1, 0, 0, 0, 0, 0))
        self.assertEqual(sums_within(("rim", -1, -1, ())), (1, -1, -1, 1, 1, 1))

    def test_a_ring(self):
        rim, hole = rounds(RING)
        self.assertEqual(sums_within(rim), (9, 9, 9, 15, 9, 15))
        self.assertEqual(sums_within(hole), (-1, -1, -1, -1, -1, -1))
        self.assertEqual(sums_of([rim, hole]), (8, 8, 8, 14, 8, 14))

    def test_no_rounds(self):
        self.assertEqual(sums_of([]), (0, 0, 0, 0, 0, 0))

    def test_the_kind_of_what_is_told(self):
        self.assertIs(type(sums_within(LONE)), tuple)
        self.assertIs(type(sums_of([LONE])), tuple)
        self.assertIs(type(sums_of([])), tuple)

    def test_each_round_against_the_cells_within(self):
        for picture in pictures_about():
            for one in rounds(picture):
                sign = {"rim": 1, "hole": -1}[one[0]]
                sums = slow_sums(slow_within(picture, one))
                self.assertEqual(sums_within(one), tuple(sign * number for number in sums))

    def test_all_rounds_against_the_picture_s_cells(self):
        for picture in pictures_about():
            self.assertEqual(sums_of(rounds(picture)), slow_sums(picture))

    def test_some_rounds_in_any_order(self):
        for picture in [moved_cells(four_rings(), -7, -7)] + list(some_pictures(7, 6, 60)):
            told = rounds(picture)
            for some in (told[::-1], told[::2], told[1::2], told[2:] + told[:1]):
                parts = [sums_within(one) for one in some] + [(0,) * 6]
                self.assertEqual(sums_of(some), tuple(sum(part[at] for part in parts) for at in range(6)))

    def test_numbers_of_thirty_figures(self):
        for x in (MOST, -MOST, FAR, -FAR, 0):
            for y in (MOST, -MOST, 1 - FAR, 0):
                cells = moved_cells(RING, x, y)
                self.assertEqual(sums_of(rounds(cells)), slow_sums(cells))
        cells = [(-MOST, -MOST), (MOST, -MOST), (0, MOST)]
        self.assertEqual(sums_of(rounds(cells)), slow_sums(cells))

    def test_at_the_bounds(self):
        for name, picture in great_pictures().items():
            with self.subTest(name=name):
                self.assertEqual(sums_of(rounds(picture)), slow_sums(picture))


class Lengths(unittest.TestCase):
    def test_a_lone_cell(self):
        self.assertEqual(lengths(LONE), (4, 4, 0, 0))

    def test_known_ones(self):
        self.assertEqual(lengths(("rim", 0, 0, (0, 4))), (6, 4, 2, 0))
        self.assertEqual(lengths(("rim", 0, 0, (1, 5))), (8, 6, 0, 2))
        self.assertEqual(lengths(rounds(RING)[0]), (12, 4, 8, 0))
        self.assertEqual(lengths(rounds(RING)[1]), (4, 0, 0, 4))
        self.assertEqual(lengths(("hole", 1, 0, (3, 1, 0, 7, 5, 4))), (6, 0, 2, 4))
        self.assertIs(type(lengths(LONE)), tuple)

    def test_each_round_of_many_pictures(self):
        for picture in many_small_pictures():
            for one in rounds(picture):
                edges, deeds = slow_walk(picture, begin_edge(one))
                straight = len([deed for deed in deeds if deed in (0, 2, 4, 6)])
                slant = len([deed for deed in deeds if deed in (1, 3, 5, 7)])
                told = lengths(one)
                self.assertEqual(told, (len(edges), deeds.count(None), straight, slant))
                self.assertEqual(told[0], sum(told[1:]))
                self.assertEqual(told[1] - told[3], {"rim": 4, "hole": -4}[one[0]])


class Boxes(unittest.TestCase):
    def test_known_ones(self):
        self.assertEqual(box(LONE), (5, -3, 5, -3))
        self.assertEqual(box(("rim", 0, 0, (0, 0, 4, 4))), (0, 0, 2, 0))
        self.assertEqual(box(("rim", 1, 0, (3, 7))), (0, 0, 1, 1))
        self.assertEqual(box(("rim", MOST, -MOST, (2, 6))), (MOST, -MOST, MOST, 1 - MOST))

    def test_of_a_hole_s_round_the_cells_around_it_count(self):
        self.assertEqual(box(rounds(drawn("####", "#..#", "####", "####"))[1]), (0, 1, 3, 3))

    def test_no_rounds(self):
        self.assertIsNone(box_of([]))

    def test_some_rounds(self):
        cells = drawn("###......", "#.#......", "###...##.", "........#", ".#.......")
        told = rounds(cells)
        self.assertEqual(box_of(told), (0, 0, 8, 4))
        self.assertEqual(box_of(told[::-1]), (0, 0, 8, 4))
        self.assertEqual(box_of(told[1:]), (0, 1, 8, 4))
        self.assertEqual(box_of([LONE]), (5, -3, 5, -3))
        self.assertIs(type(box_of(told)), tuple)
        self.assertEqual(box_of(rounds(far_cells())), (-6 * FAR, -5 * FAR, 5 * FAR, 4 * FAR))

    def test_each_round_of_many_pictures(self):
        for picture in pictures_about():
            told = rounds(picture)
            edges = [slow_walk(picture, begin_edge(one))[0] for one in told]
            for one, own in zip(told, edges):
                self.assertEqual(box(one), self.slow_box(own))
            if picture:
                self.assertEqual(box_of(told), self.slow_box([(x, y, 0) for x, y in picture]))
            if told[1:]:
                self.assertEqual(box_of(told[:0:-1]), self.slow_box([edge for own in edges[1:] for edge in own]))

    def slow_box(self, edges):
        xs = sorted(edge[0] for edge in edges)
        ys = sorted(edge[1] for edge in edges)
        return (xs[0], ys[0], xs[-1], ys[-1])


class PiecesLessHoles(unittest.TestCase):
    def test_no_rounds(self):
        self.assertEqual(pieces_less_holes([]), 0)

    def test_all_rounds_of_many_pictures(self):
        for picture in many_small_pictures():
            self.assertEqual(pieces_less_holes(rounds(picture)), len(slow_pieces(picture)) - len(slow_holes(picture)))

    def test_some_rounds_in_any_order(self):
        for picture in [four_rings()] + list(some_pictures(7, 6, 60)):
            told = rounds(picture)
            for some in (told[::-1], told[::2], told[1::2], told[2:] + told[:1]):
                sorts = [one[0] for one in some]
                self.assertEqual(pieces_less_holes(some), sorts.count("rim") - sorts.count("hole"))

    def test_more_holes_than_pieces(self):
        self.assertEqual(pieces_less_holes(rounds(great_pictures()["chess"])), 1 - 91)


class Middle(unittest.TestCase):
    def test_no_rounds(self):
        self.assertIsNone(middle([]))

    def test_known_ones(self):
        self.assertEqual(middle([LONE]), ((5, 1), (-3, 1)))
        self.assertEqual(middle(rounds([(0, 0), (1, 0)])), ((1, 2), (0, 1)))
        self.assertEqual(middle(rounds([(-1, -1), (0, -1)])), ((-1, 2), (-1, 1)))
        self.assertEqual(middle(rounds([(-1, 0), (0, 0), (-1, 1)])), ((-2, 3), (1, 3)))
        self.assertEqual(middle(rounds([(-3, 0), (3, 0)])), ((0, 1), (0, 1)))
        self.assertEqual(middle(rounds(floor(4, 4))), ((3, 2), (3, 2)))

    def test_many_pictures(self):
        for picture in pictures_about():
            told = middle(rounds(picture))
            if not picture:
                self.assertIsNone(told)
                continue
            self.assertEqual([type(told)] + [type(part) for part in told], [tuple] * 3)
            for at in (0, 1):
                top, bottom = told[at]
                self.assertEqual(Fraction(top, bottom), Fraction(sum(cell[at] for cell in picture), len(picture)))
                self.assertGreaterEqual(bottom, 1)
                self.assertEqual(gcd(top, bottom), 1)

    def test_far_away(self):
        self.assertEqual(middle(rounds([(-MOST, MOST - 1), (MOST - 1, MOST - 1)])), ((-1, 2), (MOST - 1, 1)))
        self.assertEqual(middle(rounds(far_cells())), ((-FAR // 2, 1), (-FAR // 2, 1)))


class Spread(unittest.TestCase):
    def test_no_rounds(self):
        self.assertEqual(spread([]), (0, 0, 0))

    def test_known_ones(self):
        self.assertEqual(spread([LONE]), (0, 0, 0))
        self.assertEqual(spread(rounds([(0, 0), (1, 0)])), (1, 0, 0))
        self.assertEqual(spread(rounds([(0, 0), (3, 2)])), (9, 6, 4))
        self.assertEqual(spread(rounds([(3, 0), (0, 2)])), (9, -6, 4))
        self.assertIs(type(spread([])), tuple)

    def test_many_pictures(self):
        for picture in pictures_about():
            self.assertEqual(spread(rounds(picture)), slow_spread(picture))

    def test_it_stays_when_the_picture_is_moved(self):
        for picture in some_pictures(5, 5, 60):
            kept = spread(rounds(picture))
            for dx, dy in ((1, 0), (-7, 12), (MOST, -MOST)):
                self.assertEqual(spread(rounds(moved_cells(picture, dx, dy))), kept)

    def test_turned_and_mirrored(self):
        for picture in some_pictures(5, 5, 60):
            xx, xy, yy = spread(rounds(picture))
            self.assertEqual(spread(rounds(turned_cells(picture, 1))), (yy, -xy, xx))
            self.assertEqual(spread(rounds(mirrored_cells(picture))), (xx, -xy, yy))

    def test_at_the_bounds(self):
        for name, some in great_lists().items():
            with self.subTest(name=name):
                many, x, y, xx, xy, yy = sums_of(some)
                self.assertEqual(spread(some), (many * xx - x ** 2, many * xy - x * y, many * yy - y ** 2))


if __name__ == "__main__":
    unittest.main()
