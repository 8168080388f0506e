import unittest

from deepspot.errors import SpotError
from tests.plane import REFUSALS


class Refusals(unittest.TestCase):
    def test_any_refusal_is_a_value_error(self):
        self.assertEqual(SpotError.__bases__, (ValueError,))

    def test_each_stands_straight_under_the_first(self):
        for refusal in REFUSALS:
            self.assertEqual(refusal.__bases__, (SpotError,))

    def test_none_is_another(self):
        self.assertEqual(len(set(REFUSALS)), 5)
        self.assertEqual(
            [refusal.__name__ for refusal in REFUSALS],
            ["NoNumber", "NoHalf", "NoPoints", "NoDepth", "NotFour"],
        )

    def test_each_is_raised_with_words_or_without(self):
        for refusal in REFUSALS + (SpotError,):
            self.assertEqual(str(refusal("why")), "why")
            with self.assertRaises(SpotError):
                raise refusal


if __name__ == "__main__":
    unittest.main()
