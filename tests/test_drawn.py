"""Point 40, and of point 5 that all refuse what is no picture alike."""

import itertools
import unittest

from rimsteps.cells import ask_picture, pieces
from rimsteps.drawn import read_drawn, show_drawn
from rimsteps.errors import NoPicture, NoText, RimError, TooWide
from rimsteps.reader import shows
from rimsteps.rounds import holes, rounds
from tests.helper import (
    FAR, MOST, all_pictures, drawn, far_cells, floor, great_pictures, in_order, moved_cells, refused_at, some_pictures,
    soon,
)


def refused_text(case, text):
    """The row and word of the refusal."""
    with case.assertRaises(NoText) as caught:
        read_drawn(text)
    case.assertIs(type(caught.exception), NoText)
    return (caught.exception.row, caught.exception.word)


def too_wide(case, picture):
    with case.assertRaises(TooWide) as caught:
        show_drawn(picture)
    case.assertIs(type(caught.exception), TooWide)


class Drawn(unittest.TestCase):
    def test_known_ones(self):
        self.assertEqual(show_drawn([]), "")
        self.assertEqual(show_drawn([(0, 0)]), "0 0\n#")
        self.assertEqual(show_drawn([(-3, 7)]), "-3 7\n#")
        self.assertEqual(show_drawn([(0, 0), (1, 0), (1, 1)]), "0 0\n.#\n##")
        self.assertEqual(show_drawn([(5, -2), (3, 0)]), "3 -2\n#..\n...\n..#")
        self.assertEqual(show_drawn(drawn("##.", "#.#", "...", ".#.", x=-1, y=-1)), "-1 -1\n##.\n#.#\n...\n.#.")

    def test_at_any_place(self):
        rows = "\n##.\n#.#"
        for x, y in ((0, 0), (-1, -1), (MOST - 2, -MOST), (-MOST, MOST - 1), (FAR, FAR)):
            picture = drawn("##.", "#.#", x=x, y=y)
            self.assertEqual(show_drawn(picture), f"{x} {y}" + rows)
            self.assertEqual(read_drawn(f"{x} {y}" + rows), picture)
        self.assertEqual(show_drawn([(MOST, -MOST)]), "9" * 30 + " -" + "9" * 30 + "\n#")

    def test_sixty_rows_and_sixty_signs(self):
        self.assertEqual(show_drawn(floor(60, 1)), "0 0\n" + "#" * 60)
        self.assertEqual(show_drawn(floor(1, 60)), "0 0" + "\n#" * 60)
        corners = [(0, 0), (59, 0), (0, 59), (59, 59)]
        ends, amid = "#" + "." * 58 + "#", "." * 60
        self.assertEqual(show_drawn(corners), "\n".join(["0 0", ends] + [amid] * 58 + [ends]))
        self.assertEqual(read_drawn(show_drawn(corners)), corners)

    def test_too_wide_either_way(self):
        pairs = ([(0, 0), (60, 0)], [(0, 0), (0, 60)], [(60, 0), (0, 1)])
        for picture in (floor(61, 1), floor(1, 61), floor(120, 1)) + pairs:
            too_wide(self, picture)
            too_wide(self, moved_cells(picture, -MOST, FAR))
        self.assertEqual(TooWide.__bases__, (RimError,))

    def test_too_wide_soon_where_cells_lie_far_apart(self):
        for picture in (far_cells(), [(-MOST, 0), (MOST, 0)], [(0, -MOST), (0, MOST)], [(0, 0), (1, MOST)]):
            with soon(self):
                too_wide(self, picture)

    def test_NoPicture_goes_ahead_of_TooWide(self):
        self.assertEqual(refused_at(self, show_drawn, [(0, 0), (FAR, 0), (FAR, 0)]), 2)
        self.assertEqual(refused_at(self, show_drawn, [(61, 0), (0, 0)]), 1)
        self.assertEqual(refused_at(self, show_drawn, [(0, 61), (0, 0)]), 1)

    def test_against_a_drawing_sign_by_sign(self):
        for picture in some_pictures(7, 5, 60):
            if picture:
                first, *rows = show_drawn(picture).split("\n")
                x, y = [int(word) for word in first.split(" ")]
                self.assertEqual((x, y), (min(cell[0] for cell in picture), min(cell[1] for cell in picture)))
                self.assertEqual(drawn(*rows, x=x, y=y), picture)
                self.assertEqual({sign for row in rows for sign in row} - {"#", "."}, set())
                self.assertEqual(len(rows), max(cell[1] for cell in picture) - y + 1)
                self.assertEqual({len(row) for row in rows}, {max(cell[0] for cell in picture) - x + 1})


class ReadBack(unittest.TestCase):
    def test_what_is_drawn_is_read_back(self):
        for picture in itertools.chain(all_pictures(3, 3), some_pictures(9, 7, 60)):
            told = read_drawn(show_drawn(picture))
            self.assertEqual((told, type(told)), (picture, list))
            self.assertEqual({type(cell) for cell in told} | {tuple}, {tuple})
        for title in ("floor", "chess", "rings"):
            self.assertEqual(read_drawn(show_drawn(great_pictures()[title])), great_pictures()[title])

    def test_what_is_read_is_drawn_back(self):
        for text in ("", "0 0\n#", "-5 12\n#.\n.#", "7 -7\n.#.\n#.#\n.#."):
            self.assertEqual(show_drawn(read_drawn(text)), text)

    def test_just_120_cells(self):
        text = "0 0" + ("\n" + "#" * 12) * 10
        self.assertEqual(read_drawn(text), floor(12, 10))
        self.assertEqual(read_drawn("0 0" + ("\n" + "#" * 60) * 2), floor(60, 2))


class Refused(unittest.TestCase):
    def check(self, *pairs):
        for text, place in pairs:
            self.assertEqual(refused_text(self, text), place, repr(text))

    def test_the_first_row(self):
        self.check(("\n#", (0, 0)), ("0\n#", (0, 1)), ("0 0 0\n#", (0, 2)), ("0 0 \n#", (0, 2)), (" 0 0\n#", (0, 0)),
                   ("0  0\n#", (0, 1)), ("#", (0, 0)), ("#\n0 0", (0, 0)), (" ", (0, 0)), ("0 ", (0, 1)),
                   ("\n", (0, 0)), ("0\t0\n#", (0, 0)), ("0 0\r\n#", (0, 1)), ("x 0 0\n#", (0, 0)),
                   ("0 x 0\n#", (0, 1)), ("x\n#", (0, 0)))
        for word in ("", "-", "-0", "00", "01", "+1", "--1", "1.", "a", "#", "9" * 31, "-1" + "0" * 30, "9" * 3900):
            self.check((f"{word} 0\n#", (0, 0)), (f"0 {word}\n#", (0, 1)))

    def test_the_first_row_goes_ahead(self):
        self.check(("0\nx\n##", (0, 1)), ("0 0 0", (0, 2)), ("0", (0, 1)), ("-0 0\n\n\n", (0, 0)))

    def test_other_signs(self):
        for sign in "xX0 -*,:@o/\t\r":
            self.check((f"0 0\n{sign}", (1, 0)), (f"0 0\n#{sign}\n.#", (1, 0)), (f"0 0\n##\n{sign}#\n##", (2, 0)),
                       (f"0 0\n##\n##\n#{sign}", (3, 0)))

    def test_another_length_than_the_first_one(self):
        self.check(("0 0\n##\n#", (2, 0)), ("0 0\n#\n##", (2, 0)), ("0 0\n##\n##\n###\n#", (3, 0)),
                   ("0 0\n#\n#\n#\n##", (4, 0)))

    def test_more_than_sixty_signs(self):
        self.check(("0 0\n" + "#" * 61, (1, 0)), ("0 0\n" + "." * 60 + "#", (1, 0)), ("0 0\n#\n" + "#" * 61, (2, 0)),
                   ("0 0\n" + "." * 61, (1, 0)), ("0 0\n" + "#" * 3900, (1, 0)))

    def test_the_sixty_first_row(self):
        self.assertEqual(len(read_drawn("0 0" + "\n#" * 60)), 60)
        self.check(("0 0" + "\n#" * 61, (61, 0)), ("0 0" + "\n#" * 62, (61, 0)), ("0 0" + "\n#" * 60 + "\n.", (61, 0)),
                   ("0 0" + "\n#" * 60 + "\n", (61, 0)), ("0 0" + "\n." * 61, (61, 0)), ("0 0" + "\n#" * 1900, (61, 0)))

    def test_the_row_with_the_121st_cell(self):
        full = "\n" + "#" * 60
        self.check(("0 0" + full * 3, (3, 0)), ("0 0" + full * 2 + "\n" + "." * 59 + "#", (3, 0)),
                   ("0 0" + full + "\n" + "." * 60 + full * 2, (4, 0)), ("0 0" + full * 5, (3, 0)))
        row = "\n" + "#" * 11
        self.assertEqual(len(read_drawn("0 0" + row * 10 + "\n" + "#" * 10 + ".")), 120)
        self.check(("0 0" + row * 11, (11, 0)))
        # 120 cells, and rows without any behind them: those are told of the whole.
        self.check(("0 0" + full * 2 + "\n" + "." * 60, (4, 0)))

    def test_no_rows_of_signs(self):
        self.check(("0 0", (1, 0)), ("-5 12", (1, 0)))

    def test_the_first_and_the_last_row_without_a_cell(self):
        self.check(("0 0\n.", (2, 0)), ("0 0\n..\n##", (3, 0)), ("0 0\n##\n..", (3, 0)), ("0 0\n..\n##\n..", (4, 0)),
                   ("0 0\n#.#\n.#.\n...", (4, 0)), ("0 0\n.\n.\n.", (4, 0)))
        self.assertEqual(read_drawn("0 0\n##\n..\n##"), drawn("##", "..", "##"))

    def test_the_first_and_the_last_signs_without_a_cell(self):
        self.check(("0 0\n.#", (2, 0)), ("0 0\n#.", (2, 0)), ("0 0\n.#\n.#", (3, 0)), ("0 0\n#.\n#.\n#.", (4, 0)),
                   ("0 0\n.#.", (2, 0)))
        self.assertEqual(read_drawn("0 0\n#.#"), [(0, 0), (2, 0)])
        self.assertEqual(read_drawn("0 0\n.#\n#."), [(0, 0), (1, 1)])

    def test_a_row_without_signs(self):
        # At the end and amid it has another length than the first one; as the first one it is one without a cell.
        self.check(("0 0\n#\n", (2, 0)), ("0 0\n#\n\n#", (2, 0)), ("0 0\n##\n##\n", (3, 0)))
        self.check(("0 0\n", (2, 0)), ("0 0\n\n", (3, 0)), ("0 0\n\n\n", (4, 0)), ("0 0\n\n#", (2, 0)))
        self.check(("0 0" + "\n" * 60, (61, 0)), ("0 0" + "\n" * 61, (61, 0)), ("0 0" + "\n" * 59, (60, 0)))

    def test_the_first_row_goes_ahead_of_all_that_is_told_of_the_whole(self):
        self.check(("0 0\n..\n##\n#x", (3, 0)), ("0 0\n.#\n.#\n#", (3, 0)), ("0 0\n..\n..\n...", (3, 0)),
                   ("0 0\n.." + "\n##" * 60, (61, 0)))

    def test_each_small_drawing(self):
        """Each drawing of two rows of at most three signs, held against what it would be drawn as."""
        words = ["".join(signs) for many in range(4) for signs in itertools.product("#.", repeat=many)]
        for rows in itertools.product(words, words):
            text = "\n".join(("4 -9",) + rows)
            cells = drawn(*rows, x=4, y=-9)
            if cells and show_drawn(cells) == text:
                self.assertEqual(read_drawn(text), cells)
            elif len(rows[0]) != len(rows[1]):
                self.check((text, (2, 0)))
            else:
                self.check((text, (3, 0)))


class PicturesRefusedAlike(unittest.TestCase):
    def test_at_the_least_index_of_a_cell_that_does_not_stand_behind_the_one_ahead(self):
        deeds = (ask_picture, pieces, rounds, holes, show_drawn, lambda picture: shows(picture, []))
        for cells in itertools.product([(0, 0), (1, 0), (0, 1), (-1, 1)], repeat=4):
            cells = list(cells)
            wrong = [at for at in (1, 2, 3) if in_order(set(cells[at - 1:at + 1])) != cells[at - 1:at + 1]]
            for deed in deeds:
                if wrong:
                    self.assertEqual(refused_at(self, deed, cells), wrong[0])
                else:
                    deed(cells)
        self.assertEqual(NoPicture.__bases__, (RimError,))

    def test_far_apart_and_at_the_end(self):
        cells = far_cells() + [(5 * FAR, 4 * FAR)]
        for deed in (ask_picture, pieces, rounds, holes, show_drawn, lambda picture: shows(picture, None)):
            self.assertEqual(refused_at(self, deed, cells), 120)


if __name__ == "__main__":
    unittest.main()
