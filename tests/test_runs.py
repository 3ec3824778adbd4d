"""Points 37 and 38."""

import itertools
import unittest

from rimsteps.rounds import rounds
from rimsteps.runs import row_of_runs, row_of_turns, runs_of, turns_of
from tests.helper import great_rounds, some_pictures

# By how much the second step turns from the first, told step by step.
TURNS = {0: 0, 1: 1, 2: 2, 3: 3, 4: 4, 5: -3, 6: -2, 7: -1}


def slow_runs(row):
    return [(step, len(list(some))) for step, some in itertools.groupby(row)]


def slow_turn(step, other):
    """So many steps on from the one comes the other."""
    on = 0
    while step != other:
        step = 0 if step == 7 else step + 1
        on += 1
    return TURNS[on]


def further(row, many):
    return tuple((step + many) % 8 for step in row)


def turns_round(row):
    """The turns of the row, and that from its last step to its first."""
    return turns_of(row + row[:1])[1]


def many_rows():
    told = [(), (0,), (7,), (4,) * 240, tuple(range(8)) * 30, (0, 4) * 120, (3, 3, 0, 0, 0, 3), (7, 0, 7, 0)]
    told += [one[3] for one in great_rounds()]
    told += [one[3] for picture in some_pictures(6, 6, 40) for one in rounds(picture)]
    for many in range(1, 5):
        told += itertools.product((0, 3, 4, 7), repeat=many)
    return told + list(itertools.product(range(8), repeat=3))


class Runs(unittest.TestCase):
    def test_known_ones(self):
        self.assertEqual(runs_of(()), [])
        self.assertEqual(runs_of((5,)), [(5, 1)])
        self.assertEqual(runs_of((0, 0, 0, 2, 4, 4, 4, 6)), [(0, 3), (2, 1), (4, 3), (6, 1)])
        self.assertEqual(runs_of((1, 0, 1, 1, 0)), [(1, 1), (0, 1), (1, 2), (0, 1)])
        for step in range(8):
            self.assertEqual(runs_of((step,) * 240), [(step, 240)])

    def test_the_last_is_not_joined_to_the_first(self):
        self.assertEqual(runs_of((0, 2, 0)), [(0, 1), (2, 1), (0, 1)])

    def test_many_rows(self):
        for row in many_rows():
            runs = runs_of(row)
            self.assertEqual(runs, slow_runs(row))
            self.assertEqual([type(run) for run in runs], [tuple] * len(runs))
            self.assertTrue(all(times >= 1 for step, times in runs))
            self.assertTrue(all(runs[at - 1][0] != runs[at][0] for at in range(1, len(runs))))

    def test_the_row_told_back(self):
        for row in many_rows():
            told = row_of_runs(runs_of(row))
            self.assertEqual((told, type(told)), (row, tuple))
        self.assertEqual(row_of_runs([]), ())
        self.assertEqual(row_of_runs([(3, 2), (0, 1), (3, 1)]), (3, 3, 0, 3))


class Turns(unittest.TestCase):
    def test_known_ones(self):
        self.assertEqual(turns_of(()), (None, []))
        self.assertEqual(turns_of((6,)), (6, []))
        self.assertEqual(turns_of((0, 0, 2, 5, 4)), (0, [0, 2, 3, -1]))
        self.assertEqual(turns_of((7, 0, 7)), (7, [1, -1]))
        self.assertEqual(turns_of((3,) * 240), (3, [0] * 239))

    def test_a_turn_by_four_is_4(self):
        for step in range(8):
            self.assertEqual(turns_of((step, (step + 4) % 8)), (step, [4]))

    def test_each_two_steps(self):
        for step, other in itertools.product(range(8), range(8)):
            first, turns = turns_of((step, other))
            self.assertEqual((first, turns), (step, [slow_turn(step, other)]))
            self.assertIn(turns[0], range(-3, 5))
            self.assertIn(step + turns[0] - other, (-8, 0, 8))

    def test_many_rows(self):
        for row in many_rows():
            told = turns_of(row)
            self.assertEqual([type(told), len(told), type(told[1])], [tuple, 2, list])
            self.assertEqual(told[0], row[0] if row else None)
            self.assertEqual(told[1], [slow_turn(row[at - 1], row[at]) for at in range(1, len(row))])

    def test_the_row_told_back(self):
        for row in many_rows():
            first, turns = turns_of(row)
            told = row_of_turns(first, turns)
            self.assertEqual((told, type(told)), (row, tuple))
        self.assertEqual(row_of_turns(None, []), ())
        self.assertEqual(row_of_turns(6, [3, 4, -3, -2]), (6, 1, 5, 2, 0))


class TurnsGoneRound(unittest.TestCase):
    def test_rows_with_each_step_so_much_further(self):
        for row in many_rows():
            for many in range(8):
                other = further(row, many)
                self.assertEqual(turns_of(other)[1], turns_of(row)[1])
                self.assertEqual(turns_round(other), turns_round(row))

    def test_no_others_have_the_same_turns(self):
        rows = list(itertools.product(range(8), repeat=3)) + list(itertools.product((0, 1, 5), repeat=4))
        kinds = {}
        for row in rows:
            kinds.setdefault(tuple(turns_round(row)), []).append(row)
        for some in kinds.values():
            for row in some:
                self.assertIn(row, [further(some[0], many) for many in range(8)])

    def test_gone_round_the_turns_are_those_begun_elsewhere(self):
        row = (0, 0, 2, 5, 4)
        turns = turns_round(row)
        for at in range(5):
            self.assertEqual(turns_round(row[at:] + row[:at]), turns[at:] + turns[:at])


if __name__ == "__main__":
    unittest.main()
