"""The whole: points 1 to 5 over all modules, and the interface by its names and how many things each takes."""

import importlib
import inspect
import itertools
import unittest

from rimsteps.around import around
from rimsteps.back import cells_within, picture_of
from rimsteps.cells import pieces
from rimsteps.desk import Desk
from rimsteps.drawn import read_drawn, show_drawn
from rimsteps.errors import NoPicture, NoRound, NoRounds, NoText, RimError, TooWide
from rimsteps.joins import apart, common, joined, put, taken, without
from rimsteps.likeness import alike_all, own_turns
from rimsteps.measures import box_of, middle, sums_of
from rimsteps.moves import greater_all, mirrored_all, moved_all, turned_all
from rimsteps.reader import shows
from rimsteps.reading import is_round
from rimsteps.rounds import holes, rounds
from rimsteps.runs import row_of_runs, row_of_turns, runs_of, turns_of
from rimsteps.texts import read_rounds, show_rounds
from rimsteps.thin import thinned
from rimsteps.thinlooks import holds, leavable
from tests.helper import (
    ALL_CLASSES, MOST, all_pictures, drawn, floor, great_lists, great_pictures, in_order, moved_cells, refused_at,
    some_pictures, soon,
)

INTERFACE = {
    "cells": {"ask_picture": 1, "gone": 3, "pieces": 1},
    "rounds": {"rounds": 1, "holes": 1},
    "reading": {"ask_round": 1, "edges_of": 1, "is_round": 1},
    "back": {"cells_within": 1, "picture_of": 1},
    "around": {"around": 1},
    "reader": {"shows": 2},
    "measures": {"sums_within": 1, "sums_of": 1, "lengths": 1, "box": 1, "box_of": 1, "pieces_less_holes": 1,
                 "middle": 1, "spread": 1},
    "moves": {"moved": 3, "turned": 2, "mirrored": 1, "greater": 2, "moved_all": 3, "turned_all": 2,
              "mirrored_all": 1, "greater_all": 2},
    "eighths": {"eighth": 1},
    "names": {"least_beginning": 1, "name": 1, "shape": 1},
    "likeness": {"alike": 2, "alike_all": 2, "own_turns": 1},
    "joins": {"joined": 2, "common": 2, "without": 2, "apart": 2, "put": 3, "taken": 3},
    "thinlooks": {"is_near": 3, "do_cross": 2, "holds": 3, "leavable": 3},
    "thin": {"thinned": 2, "fewest": 2},
    "runs": {"runs_of": 1, "row_of_runs": 1, "turns_of": 1, "row_of_turns": 2},
    "texts": {"show_round": 1, "show_rounds": 1, "read_rounds": 1},
    "drawn": {"show_drawn": 1, "read_drawn": 1},
}


def refused(case, kind, deed, *things):
    with case.assertRaises(kind) as caught:
        deed(*things)
    case.assertIs(type(caught.exception), kind)


class Interface(unittest.TestCase):
    def test_each_function_takes_so_many_things(self):
        for module, names in INTERFACE.items():
            held = importlib.import_module("rimsteps." + module)
            for name, many in names.items():
                self.assertEqual(len(inspect.signature(getattr(held, name)).parameters), many, name)

    def test_the_desk(self):
        self.assertEqual(len(inspect.signature(Desk).parameters), 0)
        self.assertEqual(len(inspect.signature(Desk().say).parameters), 1)
        self.assertEqual(len(inspect.signature(Desk().rounds).parameters), 0)

    def test_refusals(self):
        for kind in ALL_CLASSES:
            self.assertEqual(kind.__bases__, (RimError,))
        self.assertEqual(RimError.__bases__, (ValueError,))
        for kind in (NoPicture, NoRound, NoRounds):
            self.assertEqual(kind(7).at, 7)
        self.assertEqual((NoText(3, 4).row, NoText(3, 4).word), (3, 4))


class HandedInAgain(unittest.TestCase):
    def test_a_picture_s_rounds_tell_the_picture(self):
        for picture in itertools.chain(all_pictures(3, 3), some_pictures(9, 8, 100), great_pictures().values()):
            some = read_rounds(show_rounds(rounds(picture)))
            self.assertEqual(picture_of(some), picture)
            self.assertIs(shows(picture, some), True)
            self.assertTrue(all(is_round(one) for one in some))
            if len(picture) <= 120 and box_of(some) is not None and max(box_of(some)) < 60 and min(box_of(some)) >= 0:
                self.assertEqual(read_drawn(show_drawn(picture)), picture)

    def test_rounds_changed_are_rounds_of_the_picture_changed(self):
        for picture in some_pictures(6, 5, 40):
            some = rounds(picture)
            told = moved_all(mirrored_all(turned_all(greater_all(some, 2), 3)), 5, -5)
            other = picture_of(told)
            self.assertEqual(len(other), 4 * len(picture))
            self.assertEqual(rounds(other), told)
            self.assertEqual(len(around(told)), len(told))
            self.assertEqual(alike_all(told, greater_all(some, 2)) is None, False)
            self.assertEqual(len(own_turns(told)), len(own_turns(some)))
            self.assertEqual(sums_of(told)[0], len(other))

    def test_rounds_joined_and_cut_again(self):
        pictures = list(some_pictures(6, 5, 30))
        for picture, other in zip(pictures, pictures[1:]):
            some, others = rounds(picture), rounds(other)
            both, neither = joined(some, others), common(some, others)
            self.assertEqual(joined(apart(some, others), neither), both)
            self.assertEqual(without(both, neither), apart(some, others))
            self.assertEqual(joined(without(some, others), neither), some)
            for told in (both, neither):
                self.assertEqual(rounds(picture_of(told)), told)
            self.assertEqual(sum(sums_of(told)[0] for told in (both, neither)), len(picture) + len(other))

    def test_cells_within_pieces_and_holes_are_pictures(self):
        for picture in some_pictures(8, 7, 40):
            for lot in pieces(picture) + holes(picture) + [cells_within(one) for one in rounds(picture)]:
                self.assertEqual(picture_of(rounds(lot)), lot)

    def test_a_cell_put_and_taken_told_on(self):
        some = []
        for x, y in floor(5, 4):
            some = put(some, x * x % 5, y)[0] if (x * x % 5, y) not in picture_of(some) else some
        picture = picture_of(some)
        self.assertEqual(rounds(picture), some)
        for x, y in picture[::2]:
            some = taken(some, x, y)[0]
        self.assertEqual(picture_of(some), picture[1::2])

    def test_thinned_again_and_again(self):
        some = rounds(drawn("####.", "#..#.", "#.##.", "##..#"))
        told = thinned(some, 1)
        self.assertIs(holds(some, 1, told), True)
        self.assertEqual(leavable(some, 1, told), [])

    def test_rows_told_shorter(self):
        for some in great_lists().values():
            for sort, x, y, row in some:
                self.assertEqual(row_of_runs(runs_of(row)), row)
                self.assertEqual(row_of_turns(*turns_of(row)), row)

    def test_desks_show_what_they_read(self):
        for picture in some_pictures(7, 6, 60):
            desk, other = Desk(), Desk()
            for x, y in picture:
                desk.say(f"put {x} {y}")
            if picture:
                other.say("read " + desk.say("show"))
            self.assertEqual(other.rounds(), desk.rounds())
            self.assertEqual(desk.rounds(), rounds(picture))


class FirstToldFirst(unittest.TestCase):
    def test_of_two_refusals(self):
        # A list with a round that is refused, and with rounds of no picture.
        refused(self, NoRound, picture_of, [("rim", 5, 5, ()), ("rim", 0, 0, (0,))])
        refused(self, NoRounds, picture_of, [("rim", 5, 5, ()), ("rim", 0, 0, ())])
        refused(self, NoPicture, show_drawn, [(99, 0), (0, 0)])
        refused(self, TooWide, show_drawn, [(0, 0), (99, 0)])
        refused(self, NoText, read_rounds, "rim 0 0 0\nx")
        refused(self, NoPicture, shows, [(1, 0), (0, 0)], "no list")

    def test_a_picture_is_asked_first(self):
        wrong = in_order(floor(4, 4)) + [(0, 0)]
        for deed in (pieces, rounds, holes, show_drawn, lambda picture: shows(picture, [])):
            self.assertEqual(refused_at(self, deed, wrong), 16)


class FarOff(unittest.TestCase):
    def test_numbers_of_thirty_figures_all_through(self):
        picture = moved_cells(drawn("###.#", "#.#..", "###.#"), MOST - 4, -MOST)
        some = rounds(picture)
        with soon(self):
            self.assertEqual(read_rounds(show_rounds(some)), some)
            self.assertEqual(read_drawn(show_drawn(picture)), picture)
            self.assertEqual(picture_of(some), picture)
            self.assertEqual(sums_of(some)[0], 10)
            self.assertEqual(box_of(some), (MOST - 4, -MOST, MOST, -MOST + 2))
            # The sum of x less ten times the least x is 16, that of y likewise is 10.
            self.assertEqual(middle(some), ((5 * (MOST - 4) + 8, 5), (1 - MOST, 1)))
            desk = Desk()
            self.assertEqual(desk.say("read " + show_rounds(some).replace("\n", " / ")), "ok")
            self.assertEqual(desk.say("thin 0").count(" "), len(some) - 1)


if __name__ == "__main__":
    unittest.main()
