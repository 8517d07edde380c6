import unittest

from arrowturns import errors
from arrowturns.errors import NoBox, NoCut, NoForm, NoNames, TooMany, TurnError


class Refusals(unittest.TestCase):
    def test_any_refusal_is_a_turn_error_under_value_error(self):
        self.assertEqual(TurnError.__bases__, (ValueError,))

    def test_each_stands_straight_under_turn_error_and_under_no_other(self):
        for refusal in (NoForm, NoBox, NoNames, NoCut, TooMany):
            self.assertEqual(refusal.__bases__, (TurnError,), refusal)

    def test_they_are_five_of_their_own(self):
        self.assertEqual(len({NoForm, NoBox, NoNames, NoCut, TooMany}), 5)

    def test_each_has_its_name_and_its_place(self):
        for name in ("TurnError", "NoForm", "NoBox", "NoNames", "NoCut", "TooMany"):
            refusal = getattr(errors, name)
            self.assertEqual((refusal.__name__, refusal.__module__), (name, "arrowturns.errors"))

    def test_each_can_be_raised_and_taken_as_any_refusal(self):
        for refusal in (NoForm, NoBox, NoNames, NoCut, TooMany):
            with self.assertRaises(TurnError):
                raise refusal("words")


if __name__ == "__main__":
    unittest.main()
