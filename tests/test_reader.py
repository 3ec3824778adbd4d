"""Point 18."""

import ast
import unittest
from pathlib import Path

from rimsteps.errors import NoPicture
from rimsteps.reader import shows
from rimsteps.rounds import rounds
from tests.helper import drawn, floor, great_pictures, many_small_pictures, some_pictures

RING = drawn("###", "#.#", "###")
NESTED = drawn("#####", "#...#", "#.#.#", "#...#", "#####")
READER = Path(__file__).resolve().parent.parent / "rimsteps" / "reader.py"


def same(one, other):
    """Whether two things are alike, part by part, with True no 1 and a list no tuple."""
    if type(one) is not type(other):
        return False
    if isinstance(one, (tuple, list)):
        return len(one) == len(other) and all(same(left, right) for left, right in zip(one, other))
    return one == other


def others_for(part):
    """Things to stand in the place of this part."""
    if isinstance(part, tuple):
        return [list(part), None, 0, part + (0,), part[:-1], "", (part,)]
    if isinstance(part, str):
        return ["rim", "hole", "", part + " ", None, 0, [part], (part,)]
    return [part + 1, part - 1, -part - 1, part == 1, str(part), None, (part,), [part], part + 8]


def rounds_changed(one):
    """The round with each of its parts, and each step, changed."""
    for at, part in enumerate(one):
        for other in others_for(part):
            yield one[:at] + (other,) + one[at + 1:]
    sort, x, y, row = one
    for at, step in enumerate(row):
        for other in [True, False, None] + list(range(-1, 9)):
            yield (sort, x, y, row[:at] + (other,) + row[at + 1:])
        yield (sort, x, y, row[:at] + row[at + 1:])
        yield (sort, x, y, row[:at] + (step,) + row[at:])
        yield (sort, x, y, row[at:] + row[:at])
    yield (sort, x, y, row + row)
    yield list(one)
    yield one[:3]
    yield one + (0,)
    yield None


def lists_changed(some):
    """The list with one round changed, left out, told twice, told in the place of another; two exchanged."""
    for at, one in enumerate(some):
        for other in rounds_changed(one):
            yield some[:at] + [other] + some[at + 1:]
        yield some[:at] + some[at + 1:]
        yield some[:at] + [one] + some[at:]
        yield some + [one]
        for other_at in range(len(some)):
            yield some[:at] + [some[other_at]] + some[at + 1:]
        for other_at in range(at):
            exchanged = list(some)
            exchanged[at], exchanged[other_at] = exchanged[other_at], exchanged[at]
            yield exchanged
    yield some + [None]
    yield some + [[]]
    yield [some]
    yield tuple(some)
    yield some + some


class LetBy(unittest.TestCase):
    def test_no_rounds_of_no_cells(self):
        self.assertIs(shows([], []), True)

    def test_the_rounds_of_many_pictures(self):
        for picture in many_small_pictures():
            self.assertIs(shows(picture, rounds(picture)), True)

    def test_at_the_bounds(self):
        for name, picture in great_pictures().items():
            with self.subTest(name=name):
                self.assertIs(shows(picture, rounds(picture)), True)


class NotLetBy(unittest.TestCase):
    def test_no_rounds_of_some_cells(self):
        self.assertIs(shows([(0, 0)], []), False)

    def test_some_rounds_of_no_cells(self):
        self.assertIs(shows([], [("rim", 0, 0, ())]), False)
        self.assertIs(shows([], rounds(RING)), False)

    def test_other_things(self):
        deep = [[[[[]]]]]
        for picture in ([], [(0, 0)], RING):
            for thing in (None, True, False, 0, 1, "", "rim", (), ("rim", 0, 0, ()), [None], [[]], [()], deep,
                          (((((),),),),), [0] * 900, ["rim", 0, 0, ()], [["rim", 0, 0, []]], [("rim", 0, 0)],
                          tuple(rounds(picture)), [rounds(picture)], [list(one) for one in rounds(RING)]):
                with self.subTest(picture=picture, thing=thing):
                    self.assertIs(shows(picture, thing), False)

    def test_changed_at_any_place(self):
        for picture in [[], [(0, 0)], [(1, 1)], RING, NESTED, floor(2, 2)] + list(some_pictures(4, 4, 18)):
            told = rounds(picture)
            found = 0
            for other in lists_changed(told):
                self.assertIs(shows(picture, other), same(other, told), other)
                found += not same(other, told)
            self.assertGreater(found, 2)

    def test_the_rounds_of_another_picture(self):
        pictures = list(some_pictures(3, 3, 60)) + [[(x + 1, y) for x, y in RING], NESTED]
        for picture in pictures:
            for other in pictures:
                self.assertIs(shows(picture, rounds(other)), picture == other)

    def test_a_round_of_another_picture_put_in(self):
        picture = sorted(RING + [(7, 0), (9, 9)], key=lambda cell: cell[::-1])
        told = rounds(picture)
        for other in [("rim", 8, 0, ()), ("rim", 7, 0, (0, 4)), ("rim", 1, 1, ()), ("rim", 0, 0, ())]:
            for at in range(len(told)):
                self.assertIs(shows(picture, told[:at] + [other] + told[at + 1:]), False)
                self.assertIs(shows(picture, told[:at] + [other] + told[at:]), False)

    def test_as_many_edges_but_not_its_own(self):
        # The ring's rounds have sixteen edges: so have those of other pictures.
        for other in (floor(4, 4), [(0, 0), (2, 0), (4, 0), (6, 0)], floor(5, 3), floor(7, 1)):
            self.assertEqual(len(rounds(RING)[0][3]) + 8, 16)
            self.assertIs(shows(RING, rounds(other)), False)
            self.assertIs(shows(other, rounds(RING)), False)

    def test_all_its_edges_but_not_each_next_one_the_one_behind_it(self):
        # Cells that touch by corners are one piece, not each a lone one.
        self.assertIs(shows([(0, 0), (1, 1)], [("rim", 0, 0, ()), ("rim", 1, 1, ())]), False)
        cross = drawn(".#.", "#.#", ".#.")
        self.assertIs(shows(cross, [("rim", x, y, ()) for x, y in cross]), False)

    def test_one_twice_and_another_left_out(self):
        self.assertIs(shows([(0, 0), (2, 0)], [("rim", 0, 0, ()), ("rim", 0, 0, ())]), False)
        self.assertIs(shows([(0, 0), (2, 0)], [("rim", 2, 0, ()), ("rim", 2, 0, ())]), False)

    def test_a_hole_that_is_filled_and_a_cell_left_out(self):
        # As many edges as the picture has, and the walk round the filled hole is the one by the cells ahead.
        self.assertIs(shows(floor(3, 3) + [(9, 9)], rounds(RING)), False)
        self.assertIs(shows(floor(3, 3) + [(9, 9)], rounds(floor(3, 3) + [(9, 9)])), True)

    def test_long_rows(self):
        long = ("rim", 0, 0, (0,) * 249 + (2,) * 249 + (4,) * 249 + (6,) * 249)
        for picture in ([], [(0, 0)], RING, floor(12, 10)):
            self.assertIs(shows(picture, [long]), False)
            self.assertIs(shows(picture, [long[:3] + ((0,) * 990,)]), False)
            self.assertIs(shows(picture, [("rim", 0, 0, (0, 4) * 490)]), False)
        row = floor(200, 1)
        self.assertIs(shows(row, [("rim", 0, 0, (0,) * 199 + (4,) * 199)]), True)
        self.assertIs(shows(row, [("rim", 0, 0, (0,) * 198 + (4,) * 198)]), False)
        self.assertIs(shows(row, [("rim", 0, 0, ((0,) * 199 + (4,) * 199) * 2)]), False)


class NoPictures(unittest.TestCase):
    def test_what_is_no_picture_is_refused(self):
        for thing in (None, [], rounds(RING), [[]]):
            for picture, at in [([(1, 0), (0, 0)], 1), ([(0, 0), (0, 0)], 1), ([(0, 0), (0, 1), (1, 0)], 2)]:
                with self.assertRaises(NoPicture) as caught:
                    shows(picture, thing)
                self.assertEqual(caught.exception.at, at)


class SeeksNothing(unittest.TestCase):
    def test_it_draws_nothing_that_walks_for_rounds(self):
        tree = ast.parse(READER.read_text(encoding="utf-8"))
        drawn_in = {alias.name for node in tree.body if isinstance(node, ast.ImportFrom) for alias in node.names}
        self.assertEqual(drawn_in & {"rounds", "walk_from", "round_of", "begin_of", "pieces", "holes", "picture_of"},
                         set())


if __name__ == "__main__":
    unittest.main()
