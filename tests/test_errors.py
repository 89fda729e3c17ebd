"""Interface, liftwave/errors.py."""

import unittest

from liftwave import errors

NAMES = ("NoPicture", "NoLadder", "NoLevel", "NoHead", "NoBits", "TooMany", "NoPiece", "NoText", "NoRow")


class ErrorClasses(unittest.TestCase):
    def test_any_refusal_is_a_value_error(self):
        self.assertEqual(errors.WaveError.__bases__, (ValueError,))

    def test_each_stands_straight_under_wave_error(self):
        for name in NAMES:
            with self.subTest(name=name):
                self.assertEqual(getattr(errors, name).__bases__, (errors.WaveError,))
                self.assertEqual(getattr(errors, name).__name__, name)

    def test_none_stands_under_another_one(self):
        for name in NAMES:
            for other in NAMES:
                if name != other:
                    with self.subTest(name=name, other=other):
                        self.assertFalse(issubclass(getattr(errors, name), getattr(errors, other)))

    def test_each_is_raised_with_words_and_taken_by_its_name(self):
        for name in NAMES:
            with self.subTest(name=name):
                with self.assertRaises(getattr(errors, name)) as taken:
                    raise getattr(errors, name)("why")
                self.assertEqual(str(taken.exception), "why")


if __name__ == "__main__":
    unittest.main()
