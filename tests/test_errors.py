"""The classes of refusals."""

import unittest

from rimsteps.errors import NoCell, NoPicture, NoRound, NoRounds, NoRow, NoText, RimError, TooWide, Twice
from tests.helper import ALL_CLASSES


class Errors(unittest.TestCase):
    def test_any_refusal_is_a_value_error(self):
        self.assertEqual(RimError.__bases__, (ValueError,))

    def test_each_class_stands_straight_under_rim_error(self):
        for one in ALL_CLASSES:
            with self.subTest(one=one.__name__):
                self.assertEqual(one.__bases__, (RimError,))

    def test_no_class_is_another_one(self):
        made = [NoPicture(1), NoRound(2), NoRounds(3), NoText(4, 5), Twice(), NoCell(), TooWide(), NoRow()]
        for one, own in zip(made, ALL_CLASSES):
            with self.subTest(one=own.__name__):
                self.assertEqual([kind for kind in ALL_CLASSES if isinstance(one, kind)], [own])
                self.assertIsInstance(one, RimError)
                self.assertIsInstance(one, ValueError)

    def test_fields(self):
        self.assertEqual(NoPicture(7).at, 7)
        self.assertEqual(NoRound(0).at, 0)
        self.assertEqual(NoRounds(119).at, 119)
        refusal = NoText(3, 8)
        self.assertEqual((refusal.row, refusal.word), (3, 8))

    def test_those_without_fields_are_made_with_nothing(self):
        for one in (Twice, NoCell, TooWide, NoRow):
            with self.subTest(one=one.__name__), self.assertRaises(one):
                raise one()


if __name__ == "__main__":
    unittest.main()
