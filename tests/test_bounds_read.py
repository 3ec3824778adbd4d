"""Points 2 and 3 of what is read: nothing handed in is changed, what is told is the asker's own, all is told soon."""

import copy
import unittest

from rimsteps.around import around
from rimsteps.back import cells_within, picture_of
from rimsteps.errors import NoRound, NoRounds
from rimsteps.reader import shows
from rimsteps.reading import ask_round, edges_of, is_round
from rimsteps.rounds import rounds
from tests.helper import (
    COMB, FAR, MOST, drawn, far_squares, floor, great_lists, great_pictures, great_rounds, refused_at, slant_ring,
    soon,
)

NESTED = drawn("#####", "#...#", "#.#.#", "#...#", "#####")


class Untouched(unittest.TestCase):
    def test_what_is_handed_in_stays_as_it_was(self):
        for some in list(great_lists().values()) + [[], rounds(NESTED)]:
            kept = list(some)
            for deed in (picture_of, around, is_round):
                deed(some)
                self.assertEqual(some, kept)

    def test_what_is_refused_stays_as_it_was(self):
        for some in (rounds(NESTED)[::-1], [("rim", 0, 0, (0,))] + rounds(NESTED)):
            kept = list(some)
            with self.assertRaises(ValueError):
                picture_of(some)
            self.assertEqual(some, kept)

    def test_what_the_reader_is_handed_stays_as_it_was(self):
        for thing in (rounds(NESTED), rounds(NESTED)[::-1], [[["rim"], [0]], [("rim", 0, 0, [0])]], [None], [[]]):
            picture, kept = list(NESTED), copy.deepcopy(thing)
            shows(picture, thing)
            is_round(thing)
            self.assertEqual(picture, NESTED)
            self.assertEqual(thing, kept)

    def test_a_told_list_is_the_askers_own(self):
        one, some = rounds(NESTED)[1], rounds(NESTED)
        for deed, thing in [(edges_of, one), (cells_within, one), (picture_of, some), (around, some)]:
            with self.subTest(deed=deed.__name__):
                kept = list(deed(thing))
                told = deed(thing)
                told.clear()
                deed(thing).append("more")
                self.assertEqual(deed(thing), kept)
                self.assertEqual(told, [])

    def test_the_rounds_changed_later_change_nothing_told(self):
        some = rounds(NESTED)
        picture, nest = picture_of(some), around(some)
        some.clear()
        self.assertEqual(picture, NESTED)
        self.assertEqual(nest, [None, 0, 1])
        self.assertEqual(picture_of(some), [])
        self.assertEqual(around(some), [])


class Bounds(unittest.TestCase):
    def test_rows_of_240_steps(self):
        for one in great_rounds():
            self.assertLessEqual(len(one[3]), 240)
            for deed in (ask_round, is_round, edges_of, cells_within):
                with self.subTest(one=one[:3], deed=deed.__name__), soon(self):
                    deed(one)

    def test_rows_of_240_steps_that_are_refused(self):
        for sort, x, y, row in great_rounds():
            for other, at in [(row[:-1], len(row) - 1), (row * 2, len(row) * 2)]:
                with soon(self):
                    self.assertEqual(refused_at(self, ask_round, (sort, x, y, other), NoRound), at)
                    self.assertEqual(refused_at(self, picture_of, [(sort, x, y, other)], NoRound), at)
                    self.assertIs(is_round((sort, x, y, other)), False)

    def test_cells_within_great_rounds(self):
        square, rim, hole, row, slant, comb = great_rounds()
        self.assertEqual(cells_within(square), floor(61, 61))
        span = range(-60, 61)
        self.assertEqual(cells_within(rim),
                         [(MOST + x, -MOST + 60 + y) for y in span for x in span if abs(x) + abs(y) <= 60])
        self.assertEqual(cells_within(hole),
                         [(-MOST + x, MOST + 60 + y) for y in span for x in span if abs(x) + abs(y) < 60])
        self.assertEqual(cells_within(row), [(x - FAR, -FAR) for x in range(121)])
        self.assertEqual(cells_within(slant), [(x - FAR, x - FAR) for x in range(121)])
        self.assertEqual(cells_within(comb), COMB)

    def test_lists_of_rounds(self):
        for name, some in great_lists().items():
            self.assertLessEqual(sum(len(one[3]) for one in some), 480)
            for deed in (picture_of, around):
                with self.subTest(name=name, deed=deed.__name__), soon(self):
                    deed(some)

    def test_480_steps_together(self):
        some = great_lists()["great ring"]
        self.assertEqual(sum(len(one[3]) for one in some), 480)
        self.assertEqual(picture_of(some), slant_ring(60))
        self.assertEqual(around(some), [None, 0])
        some = great_lists()["two far apart"]
        self.assertEqual(sum(len(one[3]) for one in some), 480)
        self.assertEqual(picture_of(some), floor(61, 61) + [(FAR + x, FAR + y) for x, y in floor(61, 61)])

    def test_lists_that_are_refused(self):
        for name, some in great_lists().items():
            with self.subTest(name=name), soon(self):
                self.assertEqual(refused_at(self, picture_of, some + some[-1:], NoRounds), len(some))

    def test_120_rounds_of_240_steps(self):
        with soon(self):
            self.assertEqual(around(far_squares()), [None] * 120)

    def test_the_reader(self):
        for name, picture in great_pictures().items():
            told = rounds(picture)
            with self.subTest(name=name), soon(self):
                self.assertIs(shows(picture, told), True)
                self.assertIs(shows(picture, told[:-1]), False)
                self.assertIs(shows(picture, told + told[-1:]), False)
        long = [("rim", 0, 0, (0, 4) * 490)]
        for thing in (long, [("hole", 0, 0, (4,) * 990)], [0] * 999, [("rim", 0, 0, ())] * 199):
            with soon(self):
                self.assertIs(shows(floor(12, 10), thing), False)


if __name__ == "__main__":
    unittest.main()
