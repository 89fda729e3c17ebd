"""Point 9: neighbours."""

import unittest

from liftwave.lifts import neighbours

STRIDES = (1, 2, 4, 8, 16, 32, 64)


def by_looking(at, many, stride):
    """The neighbours as the document tells them: the nearest of those that take part."""
    taking_part = [k for k in range(many) if k % stride == 0]
    left = [k for k in taking_part if k < at]
    right = [k for k in taking_part if k > at]
    if not left and not right:
        return None
    return (left[-1] if left else right[0], right[0] if right else left[-1])


class Neighbours(unittest.TestCase):
    def test_by_the_definition(self):
        for stride in STRIDES:
            for many in list(range(1, 70)) + [127, 128, 129, 130, 200]:
                for at in range(0, many, stride):
                    with self.subTest(at=at, many=many, stride=stride):
                        self.assertEqual(neighbours(at, many, stride), by_looking(at, many, stride))

    def test_first_last_and_within(self):
        self.assertEqual(neighbours(0, 5, 1), (1, 1))
        self.assertEqual(neighbours(4, 5, 1), (3, 3))
        self.assertEqual(neighbours(2, 5, 1), (1, 3))
        self.assertEqual(neighbours(4, 9, 4), (0, 8))
        self.assertEqual(neighbours(4, 8, 4), (0, 0))
        self.assertEqual(neighbours(0, 5, 4), (4, 4))

    def test_none_at_either_side(self):
        for stride in STRIDES:
            self.assertIsNone(neighbours(0, 1, stride))
            self.assertIsNone(neighbours(0, stride, stride))
            self.assertEqual(neighbours(0, stride + 1, stride), (stride, stride))
            self.assertEqual(neighbours(stride, stride + 1, stride), (0, 0))

    def test_rows_of_thousands(self):
        for stride in STRIDES:
            last = 4999 // stride * stride
            self.assertEqual(neighbours(0, 5000, stride), (stride, stride))
            self.assertEqual(neighbours(stride, 5000, stride), (0, 2 * stride))
            self.assertEqual(neighbours(last, 5000, stride), (last - stride, last - stride))
            self.assertEqual(neighbours(last - stride, 5000, stride), (last - 2 * stride, last))


if __name__ == "__main__":
    unittest.main()
