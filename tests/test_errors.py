"""The refusals: their fields, and what each one is and is not."""

import unittest

from strikeweave.errors import (
    BadName, BadRow, BadStrike, BadWeave, NoMove, NoName, NoStrike, StrikeError, TooMany)

MADE = [
    BadName(3), BadStrike(4), BadWeave("backs", 5), BadRow(6),
    NoName("words"), NoStrike("words"), NoMove("words"), TooMany("words"),
]


class Refusals(unittest.TestCase):
    def test_each_is_a_strike_error_and_a_value_error(self):
        for error in MADE:
            with self.subTest(error=error):
                self.assertIsInstance(error, StrikeError)
                self.assertIsInstance(error, ValueError)

    def test_each_stands_straight_under_strike_error(self):
        self.assertEqual(StrikeError.__bases__, (ValueError,))
        for error in MADE:
            self.assertEqual(type(error).__bases__, (StrikeError,))

    def test_none_is_another_one(self):
        for one in MADE:
            for other in MADE:
                self.assertEqual(isinstance(one, type(other)), one is other)

    def test_fields_of_those_made_by_hand(self):
        self.assertEqual(BadName(0).place, 0)
        self.assertEqual(BadName(29).place, 29)
        self.assertEqual(BadStrike(0).place, 0)
        self.assertEqual(BadStrike(149).place, 149)
        self.assertEqual(BadRow(7).row, 7)
        for part in ("people", "sayings", "strikes", "backs"):
            error = BadWeave(part, 2)
            self.assertEqual((error.part, error.place), (part, 2))

    def test_those_with_words_are_made_with_words(self):
        for made in (NoName, NoStrike, NoMove, TooMany, StrikeError):
            self.assertEqual(str(made("so it is")), "so it is")

    def test_each_is_raised_and_taken_by_its_name_and_by_its_base(self):
        for error in MADE:
            for taken in (type(error), StrikeError, ValueError):
                with self.assertRaises(taken) as caught:
                    raise error
                self.assertIs(caught.exception, error)


if __name__ == "__main__":
    unittest.main()
