"""Points 2 and 3 of runs, texts, drawings and the desk: what is told is the asker's own, and all is told soon."""

import unittest

from rimsteps.desk import Desk
from rimsteps.drawn import read_drawn, show_drawn
from rimsteps.errors import NoRounds, NoText, TooWide
from rimsteps.rounds import rounds
from rimsteps.runs import row_of_runs, row_of_turns, runs_of, turns_of
from rimsteps.texts import read_rounds, show_round, show_rounds
from tests.helper import (
    FAR, MOST, OwnLists, chess_floor, drawn, far_cells, floor, four_rings, great_lists, great_pictures, great_rounds,
    slant_ring, soon,
)

NESTED = drawn("#####", "#...#", "#.#.#", "#...#", "#####")
ROW = (0, 0, 2, 5, 4)

# Each deed, and what is handed in.
DEEDS = {
    "runs_of": (runs_of, [ROW]),
    "runs_of none": (runs_of, [()]),
    "row_of_runs": (row_of_runs, [[(0, 2), (3, 1)]]),
    "turns_of": (turns_of, [ROW]),
    "turns_of none": (turns_of, [()]),
    "row_of_turns": (row_of_turns, [3, [4, -3, 0]]),
    "show_rounds": (show_rounds, [rounds(NESTED)]),
    "read_rounds": (read_rounds, ["rim 0 0 -\nhole 1 0 3175"]),
    "read_rounds none": (read_rounds, [""]),
    "show_drawn": (show_drawn, [NESTED]),
    "read_drawn": (read_drawn, ["0 0\n##\n#."]),
    "read_drawn none": (read_drawn, [""]),
}


def long_texts():
    """Texts of about four thousand signs, written or not as they should be."""
    told = [
        "\n".join(["rim 0 0 *0x120.4x120"] * 190),
        "\n".join(["rim 0 0 -"] * 400),
        "\n".join(["rim 0 0 " + "00224466"] * 230),
        "\n".join(["hole 1 0 3175"] * 285) + "\nx",
        "rim 0 0 " + "0" * 3990,
        "rim 0 0 *0x" + "9" * 3980,
        "rim 0 0 *" + "0x9.4x9." * 490,
        "rim 0 0 *" + "." * 3980,
        "rim " + "9" * 3990,
        "rim " * 1000,
        " " * 4000,
        "\n" * 4000,
        "x" * 4000,
        "#" * 4000,
        "0 0\n" + "#" * 3990,
        "0 0" + "\n#" * 1990,
        "0 0" + "\n" * 3990,
        "0 0\n" + "\n".join(["." * 60] * 60),
        "-" + "0" * 3990 + " 0\n#",
    ]
    return told


class Untouched(OwnLists, unittest.TestCase):
    deeds = DEEDS


class Bounds(unittest.TestCase):
    def test_rows_of_240_steps(self):
        for one in great_rounds():
            with soon(self):
                row = one[3]
                self.assertEqual(row_of_runs(runs_of(row)), row)
                self.assertEqual(row_of_turns(*turns_of(row)), row)
                self.assertEqual(read_rounds(show_round(one)), [one])

    def test_lists_of_rounds(self):
        for title, some in great_lists().items():
            with self.subTest(title=title), soon(self):
                self.assertEqual(read_rounds(show_rounds(some)), some)

    def test_pictures(self):
        for title, picture in great_pictures().items():
            with self.subTest(title=title), soon(self):
                try:
                    text = show_drawn(picture)
                except TooWide:
                    continue
                if len(picture) <= 120:
                    self.assertEqual(read_drawn(text), picture)

    def test_texts_of_four_thousand_signs(self):
        for text in long_texts():
            for deed in (read_rounds, read_drawn):
                with self.subTest(text=text[:30]), soon(self):
                    try:
                        self.assertIsInstance(deed(text), list)
                    except NoText:
                        pass

    def test_long_rows_said(self):
        desk = Desk()
        for text in long_texts():
            with self.subTest(text=text[:30]), soon(self):
                row = "read " + text.replace("\n", " / ")
                if "0x120" not in text:
                    with self.assertRaises((NoText, NoRounds)):
                        desk.say(row)
        self.assertEqual(desk.rounds(), [])

    def test_texts_somewhat_beyond(self):
        # Longer than what Python itself reads as a number.
        for text in ("rim " + "9" * 5000 + " 0 -", "rim 0 0 *0x" + "9" * 5000, "9" * 5000 + " 0\n#"):
            for deed in (read_rounds, read_drawn):
                with soon(self), self.assertRaises(NoText):
                    deed(text)

    def test_a_desk_with_120_cells_put_and_undone(self):
        for picture in (far_cells(), floor(12, 10), chess_floor()):
            desk = Desk()
            with soon(self, 5):
                for x, y in picture:
                    desk.say(f"put {x} {y}")
                self.assertEqual(desk.rounds(), rounds(picture))
                self.assertEqual(desk.say("cells"), "120")
                for cell in picture:
                    self.assertEqual(desk.say("undo"), "ok")
            self.assertEqual((desk.rounds(), desk.say("undo")), ([], "none"))

    def test_each_row_at_a_desk_with_120_rounds(self):
        desk = Desk()
        for x, y in far_cells():
            desk.say(f"put {x} {y}")
        self.assertEqual(len(desk.rounds()), 120)
        rows = ["show", "cells", "pieces", "holes", "in 119", "shape 119", "like 0 119", "thin 0", "thin 1000000",
                f"move {FAR} {-FAR}", "turn 3", "mirror", "great 1", "undo", "undo", "undo", "undo",
                f"take {-6 * FAR} {-5 * FAR}", f"put {MOST} {MOST}"]
        for row in rows:
            with self.subTest(row=row), soon(self):
                desk.say(row)
        text = "read " + desk.say("show")
        with soon(self):
            self.assertEqual(desk.say(text), "ok")

    def test_each_row_at_desks_with_long_rounds(self):
        for picture in (floor(120, 1), slant_ring(30), four_rings(), chess_floor()):
            desk = Desk()
            text = show_rounds(rounds(picture)).replace("\n", " / ")
            for row in ("read " + text, "show", "cells", "in 0", "shape 0", "like 0 0", "turn 1", "mirror", "move 1 1",
                        "put 500 500" if len(picture) < 120 else "great 1", "undo"):
                with self.subTest(row=row[:30]), soon(self):
                    desk.say(row)
            for row in ("great 2", "thin 0"):
                with soon(self), self.assertRaises(TooWide):
                    desk.say(row)

    def test_many_rows_said_and_undone(self):
        desk = Desk()
        desk.say("read rim 0 0 00224466 / hole 1 0 3175")
        with soon(self, 5):
            for again in range(300):
                desk.say("turn 1")
                desk.say("mirror")
                desk.say("move 1 0")
            for again in range(900):
                self.assertEqual(desk.say("undo"), "ok")
        self.assertEqual(desk.say("show"), "rim 0 0 00224466 / hole 1 0 3175")

    def test_480_steps_read(self):
        square = show_rounds(great_rounds()[:1])
        desk = Desk()
        with soon(self), self.assertRaises(TooWide):
            desk.say(f"read {square} / rim 0 {FAR} " + square.split(" ")[3])


if __name__ == "__main__":
    unittest.main()
