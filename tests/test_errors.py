import unittest

from queenrows import errors

REFUSALS = ["BadSize", "BadPlace", "BadSetting", "NoSetting", "NoPeace"]


class ErrorsTest(unittest.TestCase):

    def test_queen_error_is_straight_under_value_error(self):
        self.assertEqual(errors.QueenError.__bases__, (ValueError,))

    def test_the_five_are_straight_under_queen_error(self):
        for name in REFUSALS:
            with self.subTest(name):
                self.assertEqual(getattr(errors, name).__bases__, (errors.QueenError,))

    def test_none_of_the_five_is_another(self):
        kinds = [getattr(errors, name) for name in REFUSALS]
        for kind in kinds:
            for other in kinds:
                self.assertEqual(issubclass(kind, other), kind is other)

    def test_they_can_be_raised_and_caught_as_value_errors(self):
        for name in REFUSALS:
            with self.subTest(name):
                with self.assertRaises(ValueError):
                    raise getattr(errors, name)("why")


if __name__ == "__main__":
    unittest.main()
