"""Points 2 and 3 of measures, moves and names: nothing handed in is changed, what is told is the asker's own, soon."""

import unittest

from rimsteps.eighths import eighth
from rimsteps.measures import box, box_of, lengths, middle, pieces_less_holes, spread, sums_of, sums_within
from rimsteps.moves import greater, greater_all, mirrored, mirrored_all, moved, moved_all, turned, turned_all
from rimsteps.names import least_beginning, name, shape
from rimsteps.rounds import rounds
from tests.helper import FAR, MOST, drawn, far_cells, far_squares, great_lists, great_rounds, soon

NESTED = rounds(drawn("#####", "#...#", "#.#.#", "#...#", "#####"))

OF_ONE = {
    "sums_within": sums_within,
    "lengths": lengths,
    "box": box,
    "moved": lambda one: moved(one, MOST, -MOST),
    "turned": lambda one: turned(one, -(10 ** 29) - 1),
    "mirrored": mirrored,
    "greater": lambda one: greater(one, 4),
    "eighth": eighth,
    "name": name,
    "shape": shape,
}

LISTS = {
    "moved_all": lambda some: moved_all(some, -FAR, 7),
    "moved_all by nothing": lambda some: moved_all(some, 0, 0),
    "turned_all": lambda some: turned_all(some, 3),
    "turned_all by nothing": lambda some: turned_all(some, 4),
    "mirrored_all": mirrored_all,
    "greater_all": lambda some: greater_all(some, 4),
    "greater_all by nothing": lambda some: greater_all(some, 1),
}

OF_ALL = {
    "sums_of": sums_of,
    "box_of": box_of,
    "pieces_less_holes": pieces_less_holes,
    "middle": middle,
    "spread": spread,
    **LISTS,
}


class Untouched(unittest.TestCase):
    def test_what_is_handed_in_stays_as_it_was(self):
        for some in ([], list(NESTED), rounds(far_cells())):
            kept = list(some)
            for word, deed in OF_ALL.items():
                with self.subTest(word=word):
                    deed(some)
                    self.assertEqual(some, kept)

    def test_a_told_list_is_the_askers_own(self):
        for some in ([], list(NESTED)):
            for word, deed in LISTS.items():
                with self.subTest(word=word):
                    kept = list(deed(some))
                    told = deed(some)
                    told.append("more")
                    deed(some).clear()
                    self.assertEqual(deed(some), kept)
                    self.assertEqual(told, kept + ["more"])

    def test_a_told_list_is_not_the_one_handed_in(self):
        for word, deed in LISTS.items():
            with self.subTest(word=word):
                some = list(NESTED)
                told = deed(some)
                kept = list(told)
                some.clear()
                self.assertEqual(told, kept)
                empty = []
                self.assertIsNot(deed(empty), empty)


class Bounds(unittest.TestCase):
    def test_rows_of_240_steps(self):
        for one in great_rounds():
            for word, deed in OF_ONE.items():
                with self.subTest(one=one[:3], word=word), soon(self):
                    deed(one)

    def test_lists_of_rounds(self):
        for title, some in great_lists().items():
            for word, deed in OF_ALL.items():
                with self.subTest(title=title, word=word), soon(self):
                    deed(some)

    def test_each_of_120_rounds(self):
        for word, deed in OF_ONE.items():
            with self.subTest(word=word), soon(self):
                for one in rounds(far_cells()):
                    deed(one)

    def test_120_rounds_of_240_steps(self):
        some = far_squares()
        for word, deed in OF_ALL.items():
            with self.subTest(word=word), soon(self, 5):
                deed(some)

    def test_great_rounds_by_an_eighth(self):
        side = 60
        square, slant, hole, row, slant_row, comb = great_rounds()
        self.assertEqual(eighth(square), ("rim", 0, 0, (1,) * side + (3,) * side + (5,) * side + (7,) * side))
        self.assertEqual(eighth(slant),
                         ("rim", MOST - side, -MOST, (0,) * side + (2,) * side + (4,) * side + (6,) * side))
        self.assertEqual(eighth(row), ("rim", -FAR, -FAR, (1,) * 120 + (5,) * 120))
        self.assertEqual(eighth(slant_row), ("rim", -FAR, -FAR, (2,) * 120 + (6,) * 120))
        self.assertIsNone(eighth(hole))
        self.assertIsNone(eighth(comb))

    def test_least_beginnings(self):
        rows = [(4,) * 240, (0, 1) * 120, (4,) * 239 + (3,), (3,) * 239 + (4,), tuple(at % 8 for at in range(240))]
        for row in rows:
            with soon(self):
                least_beginning(row)

    def test_sums_of_great_rounds(self):
        square, slant = great_rounds()[:2]
        many = 61 * 61
        once, squares = 61 * 60 // 2, 60 * 61 * 121 // 6
        self.assertEqual(sums_within(square), (many, 61 * once, 61 * once, 61 * squares, once * once, 61 * squares))
        self.assertEqual(sums_within(slant)[:3],
                         (2 * 60 * 61 + 1, (2 * 60 * 61 + 1) * MOST, (2 * 60 * 61 + 1) * (60 - MOST)))


if __name__ == "__main__":
    unittest.main()
