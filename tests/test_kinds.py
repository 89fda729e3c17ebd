"""Point 2: what a whole number is."""

import unittest

from liftwave.kinds import is_number


class WholeNumbers(unittest.TestCase):
    def test_ints_are(self):
        for number in (0, 1, -1, 10 ** 300, -(10 ** 300)):
            self.assertIs(is_number(number), True)

    def test_truths_and_all_else_are_not(self):
        for thing in (True, False, None, "", "1", 1.0, 0.0, 1j, b"1", [], [1], (), (1,), {}, {1}, int, object()):
            with self.subTest(thing=thing):
                self.assertIs(is_number(thing), False)


if __name__ == "__main__":
    unittest.main()
