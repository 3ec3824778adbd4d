"""Points 11 to 14."""

import itertools
import unittest

from rimsteps.back import cells_within, picture_of
from rimsteps.errors import NoRound, RimError
from rimsteps.reading import ask_round, edges_of, is_round
from rimsteps.rounds import rounds
from tests.helper import (
    ALL_CLASSES, FAR, begin_edge, drawn, many_small_pictures, refused_at, slow_refusal, slow_walk, some_pictures,
)

DEEDS = (ask_round, edges_of, cells_within)

RING_HOLE = ("hole", 1, 0, (3, 1, 7, 5))


def changed_rounds(one):
    """The round with each step changed to each other one, left out, told twice; cut, lengthened, of the other sort."""
    sort, x, y, row = one
    for at, step in enumerate(row):
        for other in range(8):
            if other != step:
                yield (sort, x, y, row[:at] + (other,) + row[at + 1:])
        yield (sort, x, y, row[:at] + row[at + 1:])
        yield (sort, x, y, row[:at] + (step,) + row[at:])
        yield (sort, x, y, row[:at])
        yield (sort, x, y, row[at:] + row[:at])
    for step in range(8):
        yield (sort, x, y, row + (step,))
    yield (sort, x, y, row + row)
    yield (sort, x, y, row[::-1])
    yield ({"rim": "hole", "hole": "rim"}[sort], x, y, row)


class Edges(unittest.TestCase):
    def test_a_lone_cell_has_four(self):
        self.assertEqual(edges_of(("rim", 5, -3, ())), [(5, -3, 0), (5, -3, 1), (5, -3, 2), (5, -3, 3)])

    def test_two_cells(self):
        self.assertEqual(
            edges_of(("rim", 0, 0, (0, 4))),
            [(0, 0, 0), (1, 0, 0), (1, 0, 1), (1, 0, 2), (0, 0, 2), (0, 0, 3)],
        )
        self.assertEqual(
            edges_of(("rim", 1, 0, (3, 7))),
            [(1, 0, 0), (1, 0, 1), (1, 0, 2), (0, 1, 1), (0, 1, 2), (0, 1, 3), (0, 1, 0), (1, 0, 3)],
        )

    def test_a_hole_s_round(self):
        self.assertEqual(edges_of(RING_HOLE), [(1, 0, 2), (0, 1, 1), (1, 2, 0), (2, 1, 3)])
        self.assertEqual(
            edges_of(("hole", 1, 0, (3, 1, 0, 7, 5, 4))),
            [(1, 0, 2), (0, 1, 1), (1, 2, 0), (2, 2, 0), (3, 1, 3), (2, 0, 2)],
        )

    def test_far_away(self):
        self.assertEqual(
            edges_of(("hole", 1 - FAR, FAR, (3, 1, 7, 5))),
            [(1 - FAR, FAR, 2), (-FAR, FAR + 1, 1), (1 - FAR, FAR + 2, 0), (2 - FAR, FAR + 1, 3)],
        )

    def test_the_kinds_of_what_is_told(self):
        told = edges_of(RING_HOLE)
        self.assertIs(type(told), list)
        self.assertEqual({type(edge) for edge in told}, {tuple})

    def test_they_are_those_of_the_walk_over_the_picture(self):
        for picture in many_small_pictures():
            for one in rounds(picture):
                told = edges_of(one)
                self.assertEqual(told, slow_walk(picture, begin_edge(one))[0])
                self.assertEqual(len(told), len(set(told)))


class Refused(unittest.TestCase):
    def assert_refused(self, one, at):
        for deed in DEEDS:
            with self.subTest(one=one, deed=deed.__name__):
                self.assertEqual(refused_at(self, deed, one, NoRound), at)
        with self.subTest(one=one):
            self.assertEqual(refused_at(self, picture_of, [one], NoRound), at)
            self.assertIs(is_round(one), False)
            # The slow telling itself is held against these numbers, too.
            self.assertEqual(slow_refusal(one), at)

    def test_gainsaid_in_the_first_step(self):
        # The gap below the begin cell is seen ahead of the first step.
        self.assert_refused(("rim", 0, 0, (6,)), 0)
        self.assert_refused(("rim", 0, 0, (6, 2)), 0)
        self.assert_refused(("rim", 3, -3, (6, 0, 2, 4)), 0)
        self.assert_refused(("hole", 0, 0, (2,)), 0)
        self.assert_refused(("hole", 0, 0, (2, 1, 7, 5)), 0)

    def test_gainsaid_amid(self):
        # Steps onto the gap that was seen at the right.
        self.assert_refused(("rim", 0, 0, (0, 6, 4, 2)), 1)
        # Goes straight, though its begin cell lies ahead at the right.
        self.assert_refused(("rim", 0, 0, (0, 0, 2, 2, 4, 6, 6, 6, 4, 2)), 6)
        # Turns on the way back, though its own cells are ahead.
        self.assert_refused(("rim", 0, 0, (0, 0, 4, 6, 0, 0)), 3)
        self.assert_refused(("rim", 1, 0, (3, 1, 7, 5)), 2)

    def test_gainsaid_in_the_last_step(self):
        self.assert_refused(("rim", 0, 0, (0, 6)), 1)
        self.assert_refused(("rim", 0, 0, (0, 0, 4, 6)), 3)
        self.assert_refused(("rim", 0, 0, (0, 2, 4, 0)), 3)

    def test_turns_count_to_the_step_behind_them(self):
        # The turn at (1, 0) sees the gap straight ahead where (0, 0) is; the step itself leads to nothing seen yet.
        self.assert_refused(("rim", 0, 0, (0, 0, 4, 5)), 3)
        self.assert_refused(("rim", 0, 0, (0, 0, 4, 5, 5, 5, 5)), 3)

    def test_gainsaid_in_the_turns_behind_the_row(self):
        # It is at its begin cell then, but turns where another of its cells lies ahead at the right.
        self.assert_refused(("rim", 0, 0, (1, 5, 3, 7, 1, 5)), 6)
        self.assert_refused(("rim", 0, 0, (0, 0, 4)), 3)

    def test_not_back_at_the_begin_cell(self):
        self.assert_refused(("rim", 0, 0, (0,)), 1)
        self.assert_refused(("rim", 0, 0, (0, 0, 0)), 3)
        self.assert_refused(("rim", 0, 0, (0, 2)), 2)
        self.assert_refused(("rim", 0, 0, (0, 0, 2, 2, 4)), 5)
        self.assert_refused(("hole", 1, 0, (3, 1, 7)), 3)
        self.assert_refused(("hole", 0, 0, (4, 4, 4)), 3)

    def test_turned_too_often(self):
        self.assert_refused(("rim", 0, 0, (0, 4, 0, 4)), 4)
        self.assert_refused(("rim", 0, 0, (2, 6) * 3), 6)
        self.assert_refused(("rim", 0, 0, (0, 2, 4, 6) * 2), 8)
        self.assert_refused(("hole", 1, 0, (3, 1, 7, 5) * 2), 8)

    def test_the_other_sort(self):
        self.assert_refused(("hole", 0, 0, ()), 0)
        self.assert_refused(("hole", 0, 0, (0, 4)), 2)
        self.assert_refused(("hole", 0, 1, (6, 0, 2, 4)), 4)
        self.assert_refused(("rim", 1, 2, (7, 5, 3, 1)), 4)

    def test_begun_at_another_edge(self):
        self.assert_refused(("rim", 1, 0, (2, 4, 6, 0)), 4)
        self.assert_refused(("rim", 1, 0, (4, 0)), 2)
        self.assert_refused(("rim", 1, 1, (5, 1)), 2)
        self.assert_refused(("hole", 2, 0, (4, 3, 1, 0, 7, 5)), 6)

    def test_the_refusal_is_a_rim_error_and_a_value_error(self):
        for deed in DEEDS:
            with self.assertRaises(NoRound) as caught:
                deed(("rim", 0, 0, (0, 0, 4, 6)))
            self.assertIsInstance(caught.exception, RimError)
            self.assertIsInstance(caught.exception, ValueError)
            self.assertEqual([kind for kind in ALL_CLASSES if isinstance(caught.exception, kind)], [NoRound])

    def test_each_short_row(self):
        for sort in ("rim", "hole"):
            for many in range(5):
                for row in itertools.product(range(8), repeat=many):
                    self.assert_as_told_slowly((sort, 2, -1, row))

    def test_each_round_changed(self):
        for picture in some_pictures(5, 5, 30):
            for one in rounds(picture):
                for other in changed_rounds(one):
                    self.assert_as_told_slowly(other)

    def assert_as_told_slowly(self, one):
        at = slow_refusal(one)
        self.assertIs(is_round(one), at is None)
        if at is None:
            self.assertIs(ask_round(one), True)
        else:
            with self.assertRaises(NoRound) as caught:
                ask_round(one)
            self.assertEqual(caught.exception.at, at, one)


class LetBy(unittest.TestCase):
    def test_each_round_of_many_pictures(self):
        for picture in many_small_pictures():
            for one in rounds(picture):
                self.assertIs(ask_round(one), True)
                self.assertIs(is_round(one), True)

    def test_each_that_is_let_by_is_the_round_of_some_picture(self):
        found = {"rim": 0, "hole": 0}
        for many in range(6):
            for row in itertools.product(range(8), repeat=many):
                for sort in found:
                    if is_round((sort, 7, 7, row)):
                        self.assert_round_of_its_cells((sort, 7, 7, row))
                        found[sort] += 1
        self.assertGreater(found["rim"], 80)
        self.assertEqual(found["hole"], 1)

    def test_each_changed_one_that_is_let_by_is_the_round_of_some_picture(self):
        found = 0
        for picture in some_pictures(5, 5, 30):
            for one in rounds(picture):
                for other in changed_rounds(one):
                    if is_round(other):
                        self.assert_round_of_its_cells(other)
                        found += 1
        self.assertGreater(found, 100)

    def assert_round_of_its_cells(self, one):
        cells = sorted({(y, x) for x, y, way in edges_of(one)})
        self.assertIn(one, rounds([(x, y) for y, x in cells]))


class AnyThing(unittest.TestCase):
    def test_rounds(self):
        for one in [("rim", 0, 0, ()), ("rim", 10 ** 30 - 1, 1 - 10 ** 30, (0, 4)), RING_HOLE]:
            self.assertIs(is_round(one), True)

    def assert_none(self, *things):
        for thing in things:
            with self.subTest(thing=thing):
                self.assertIs(is_round(thing), False)

    def test_things_that_are_no_tuples(self):
        self.assert_none(None, True, False, 0, 7, -1, 10 ** 29, "", "rim", "rim 0 0 -", [], [RING_HOLE], "rim0", "abcd")
        self.assert_none(["rim", 0, 0, ()], list(RING_HOLE))

    def test_a_part_too_many_or_too_few(self):
        self.assert_none((), ("rim",), ("rim", 0), ("rim", 0, 0), ("rim", 0, 0, (), ()), (("rim", 0, 0, ()),))
        self.assert_none(("rim", 0, ()), (0, 0, ()), ("rim", (0, 0), ()), RING_HOLE + (None,), RING_HOLE[:3])

    def test_lists_in_the_place_of_tuples(self):
        self.assert_none(["rim", 0, 0, ()], ("rim", 0, 0, []), ("rim", 0, 0, [0, 4]), ("hole", 1, 0, [3, 1, 7, 5]))

    def test_other_sorts(self):
        self.assert_none(*[(sort, 0, 0, ()) for sort in ("Rim", "rim ", "", "r", "holes", "rims", 0, 1, True, None)])
        self.assert_none(*[(sort, 0, 0, ()) for sort in (["rim"], ("rim",), [], (), [[]], ([],), "rimhole")])
        self.assert_none(*[(sort, 1, 0, (3, 1, 7, 5)) for sort in ("HOLE", "hole\n", "ho", 2, [], ())])

    def test_truths_in_the_place_of_numbers(self):
        self.assert_none(("rim", False, 0, ()), ("rim", 0, False, ()), ("rim", True, 0, ()), ("rim", 0, True, ()))
        self.assert_none(("hole", True, 0, (3, 1, 7, 5)), ("hole", 1, False, (3, 1, 7, 5)))
        self.assert_none(("hole", 1, 0, (3, True, 7, 5)), ("rim", 0, 0, (False, 4)), ("rim", 0, 0, (False, 2, 4, 6)))

    def test_other_things_in_the_place_of_numbers(self):
        for other in (None, "0", "", (), [], (0,), [0]):
            self.assert_none(("rim", other, 0, ()), ("rim", 0, other, ()), ("rim", 0, 0, (other, 4)))
            self.assert_none(("rim", 0, 0, (0, other)), ("rim", 0, 0, (other,)))

    def test_other_things_in_the_place_of_the_row(self):
        self.assert_none(*[("rim", 0, 0, other) for other in (None, 0, True, False, "", "04", "()", [], [()], ((),))])

    def test_numbers_that_are_no_steps(self):
        for other in (-1, 8, -4, -8, 12, 10 ** 29, -(10 ** 29)):
            self.assert_none(("rim", 0, 0, (0, other)), ("rim", 0, 0, (other, 4)), ("rim", 0, 0, (other,)))
        # By eighths round these would be right steps.
        self.assert_none(("rim", 0, 0, (8, 4)), ("rim", 0, 0, (0, -4)), ("hole", 1, 0, (3, 1, 7, 13)))

    def test_things_within_things(self):
        deep = ((((0,),),),)
        deep_list = [[[[0]]]]
        self.assert_none(deep, deep_list, ("rim", 0, 0, deep), (deep, 0, 0, ()), ("rim", deep, 0, ()))
        self.assert_none(("rim", 0, deep_list, ()), (deep_list, 0, 0, ()), ("rim", 0, 0, (0, deep_list)))
        self.assert_none(("rim", 0, 0, (((((0, 4),),),),)), [[[["rim", 0, 0, ()]]]], (((("rim", 0, 0, ()),),),))

    def test_a_thousand_things(self):
        self.assert_none((0,) * 999, [0] * 999, ("rim", 0, 0, (None,) * 995), ("rim", 0, 0, (0,) * 995), "r" * 1000)
        self.assert_none(("rim", 0, 0, (0, 4) * 498), tuple([("rim", 0, 0, ())] * 199))

    def test_rows_longer_than_240(self):
        for side in (61, 100, 249):
            row = (0,) * side + (2,) * side + (4,) * side + (6,) * side
            self.assertIs(is_round(("rim", 0, 0, row)), True)
            self.assertIs(is_round(("rim", 0, 0, row[:-1])), False)
            self.assertIs(is_round(("rim", 0, 0, row + (2,))), False)
            self.assertIs(is_round(("hole", 0, 0, row)), False)
            slant = (3,) * side + (1,) * side + (7,) * side + (5,) * side
            self.assertIs(is_round(("hole", 0, 0, slant)), True)
            self.assertIs(is_round(("rim", 0, 0, slant)), False)
        self.assertIs(is_round(("rim", 0, 0, (0,) * 495 + (4,) * 495)), True)

    def test_those_of_drawn_pictures(self):
        nested = drawn("#####", "#...#", "#.#.#", "#...#", "#####")
        for one in rounds(nested):
            self.assertIs(is_round(one), True)
            self.assertIs(is_round(list(one)), False)
            self.assertIs(is_round(one[:3] + (list(one[3]),)), False)
        self.assertIs(is_round(rounds(nested)), False)
        self.assertIs(is_round(tuple(rounds(nested))), False)


if __name__ == "__main__":
    unittest.main()
