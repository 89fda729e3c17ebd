"""Points 2 and 7: spans."""

import random
import unittest

from liftwave.spans import breadth, broadest, halved, holds, minus, plus, times, within

GREAT = 10 ** 59 + 12345678901234567890
SMALL_SPANS = [(low, high) for low in range(-6, 7) for high in range(low, 7)]
GREAT_SPANS = [(-GREAT, GREAT), (GREAT, GREAT), (-GREAT, -GREAT), (-GREAT - 7, -3), (5, GREAT + 1), (0, GREAT)]


def members(span):
    return range(span[0], span[1] + 1)


def least_span(numbers):
    return (min(numbers), max(numbers))


class SumsAndDifferences(unittest.TestCase):
    def test_least_span_of_all_sums(self):
        for one in SMALL_SPANS:
            for other in SMALL_SPANS[::3]:
                self.assertEqual(plus(one, other), least_span([a + b for a in members(one) for b in members(other)]))

    def test_least_span_of_all_differences(self):
        for one in SMALL_SPANS:
            for other in SMALL_SPANS[::3]:
                self.assertEqual(minus(one, other), least_span([a - b for a in members(one) for b in members(other)]))

    def test_written_out(self):
        self.assertEqual(plus((-3, 4), (10, 20)), (7, 24))
        self.assertEqual(minus((-3, 4), (10, 20)), (-23, -6))
        self.assertEqual(minus((1, 5), (1, 5)), (-4, 4))
        self.assertEqual(plus((7, 7), (-7, -7)), (0, 0))
        self.assertEqual(minus((7, 7), (-7, -7)), (14, 14))

    def test_ends_of_sixty_figures(self):
        for a, b in GREAT_SPANS:
            for c, d in GREAT_SPANS:
                self.assertEqual(plus((a, b), (c, d)), (a + c, b + d))
                self.assertEqual(minus((a, b), (c, d)), (a - d, b - c))


class Times(unittest.TestCase):
    def test_least_span_of_all_products(self):
        for one in SMALL_SPANS:
            for many in range(-9, 10):
                with self.subTest(one=one, many=many):
                    self.assertEqual(times(one, many), least_span([a * many for a in members(one)]))

    def test_written_out(self):
        self.assertEqual(times((-3, 4), 2), (-6, 8))
        self.assertEqual(times((-3, 4), -2), (-8, 6))
        self.assertEqual(times((-3, 4), 0), (0, 0))
        self.assertEqual(times((5, 5), -1), (-5, -5))

    def test_ends_of_sixty_figures(self):
        for low, high in GREAT_SPANS:
            self.assertEqual(times((low, high), GREAT), (low * GREAT, high * GREAT))
            self.assertEqual(times((low, high), -GREAT), (high * -GREAT, low * -GREAT))
            self.assertEqual(times((low, high), 0), (0, 0))


class Halved(unittest.TestCase):
    def test_least_span_of_all_halves(self):
        for low in range(-20, 20, 3):
            for high in range(low, 24):
                for shift in range(8):
                    halves = [number // 2 ** shift for number in range(low, high + 1)]
                    self.assertEqual(halved((low, high), shift), least_span(halves))

    def test_halving_goes_down_below_0_too(self):
        self.assertEqual(halved((-1, -1), 3), (-1, -1))
        self.assertEqual(halved((-9, -8), 3), (-2, -1))
        self.assertEqual(halved((-1, 1), 1), (-1, 0))
        self.assertEqual(halved((-7, 7), 2), (-2, 1))

    def test_no_halving_leaves_the_span(self):
        for one in SMALL_SPANS + GREAT_SPANS:
            self.assertEqual(halved(one, 0), one)

    def test_up_to_300_times(self):
        for low, high in SMALL_SPANS + GREAT_SPANS:
            for shift in (1, 2, 63, 64, 65, 196, 197, 198, 199, 299, 300):
                power = 2 ** shift
                self.assertEqual(halved((low, high), shift), (low // power, high // power))
        self.assertEqual(halved((-GREAT, GREAT), 300), (-1, 0))
        self.assertEqual(halved((-(2 ** 301), 2 ** 301 - 1), 300), (-2, 1))


class BreadthHoldsWithin(unittest.TestCase):
    def test_breadth(self):
        self.assertEqual(breadth((5, 5)), 0)
        self.assertEqual(breadth((-5, -5)), 0)
        self.assertEqual(breadth((-3, 4)), 7)
        self.assertEqual(breadth((-9, -4)), 5)
        self.assertEqual(breadth((-GREAT, GREAT)), 2 * GREAT)

    def test_broadest(self):
        self.assertEqual(broadest([(5, 5)]), 0)
        self.assertEqual(broadest([(-3, 4), (0, 1), (9, 9)]), 7)
        self.assertEqual(broadest([(9, 9), (0, 1), (-3, 4)]), 7)

    def test_holds_both_ends_and_not_one_beyond(self):
        for low, high in SMALL_SPANS + GREAT_SPANS:
            with self.subTest(low=low, high=high):
                self.assertIs(holds((low, high), low), True)
                self.assertIs(holds((low, high), high), True)
                self.assertIs(holds((low, high), (low + high) // 2), True)
                self.assertIs(holds((low, high), low - 1), False)
                self.assertIs(holds((low, high), high + 1), False)

    def test_within_is_of_every_number(self):
        for one in SMALL_SPANS:
            for other in SMALL_SPANS:
                self.assertIs(within(one, other), set(members(one)) <= set(members(other)))

    def test_within_of_great_spans_and_ends_one_off(self):
        for low, high in GREAT_SPANS:
            with self.subTest(low=low, high=high):
                self.assertIs(within((low, high), (low, high)), True)
                self.assertIs(within((low, high), (low - 1, high + 1)), True)
                self.assertIs(within((low - 1, high + 1), (low, high)), False)
                self.assertIs(within((low - 1, high), (low, high)), False)
                self.assertIs(within((low, high + 1), (low, high)), False)
                self.assertIs(within((low, high), (low - 1, high)), True)
                self.assertIs(within((low, high), (low, high + 1)), True)


class Together(unittest.TestCase):
    def test_what_comes_of_the_numbers_lies_in_the_span(self):
        chance = random.Random(7)
        for turn in range(500):
            one = tuple(sorted((chance.randint(-GREAT, GREAT), chance.randint(-GREAT, GREAT))))
            other = tuple(sorted((chance.randint(-GREAT, GREAT), chance.randint(-GREAT, GREAT))))
            a = chance.randint(one[0], one[1])
            b = chance.randint(other[0], other[1])
            many = chance.randint(-8, 8)
            shift = chance.randint(0, 300)
            self.assertTrue(holds(plus(one, other), a + b))
            self.assertTrue(holds(minus(one, other), a - b))
            self.assertTrue(holds(times(one, many), a * many))
            self.assertTrue(holds(halved(one, shift), a >> shift))

    def test_spans_are_tuples(self):
        for told in (plus((1, 2), (3, 4)), minus((1, 2), (3, 4)), times((1, 2), -3), times((1, 2), 3), halved((1, 2), 1)):
            self.assertIs(type(told), tuple)
            self.assertEqual([type(end) for end in told], [int, int])


if __name__ == "__main__":
    unittest.main()
