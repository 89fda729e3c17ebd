"""Points 2 and 17 to 19: numbers told in bit rows."""

import itertools
import random
import unittest

from helping import GREAT, UTMOST, plainly_told, some_row
from liftwave.bitrows import planes_of, told


class PlanesOf(unittest.TestCase):
    def test_where_all_are_0(self):
        for many in (1, 2, 5000):
            self.assertEqual(planes_of([0] * many), 0)

    def test_powers_of_2_and_one_less_of_both_signs(self):
        for k in list(range(70)) + [200, 996]:
            for sign in (1, -1):
                self.assertEqual(planes_of([sign * 2 ** k]), k + 1)
                self.assertEqual(planes_of([sign * (2 ** k - 1)]), k)
                self.assertEqual(planes_of([0, sign * 2 ** k, 0]), k + 1)

    def test_the_greatest_without_its_sign_wherever_it_stands(self):
        for numbers in itertools.permutations([1, -9, 3, 0]):
            self.assertEqual(planes_of(list(numbers)), 4)
        self.assertEqual(planes_of([-8, 7]), 4)
        self.assertEqual(planes_of([8, -7]), 4)
        self.assertEqual(planes_of([-7, 7]), 3)

    def test_the_least_planes_below_whose_power_all_are(self):
        chance = random.Random(170)
        for most in (1, 9, GREAT, UTMOST):
            for turn in range(50):
                numbers = some_row(chance, 7, most)
                planes = planes_of(numbers)
                self.assertTrue(all(abs(number) < 2 ** planes for number in numbers))
                self.assertTrue(planes == 0 or any(abs(number) >= 2 ** (planes - 1) for number in numbers))


class ByHand(unittest.TestCase):
    def test_one_number(self):
        self.assertEqual(told([0], 0), "")
        self.assertEqual(told([1], 1), "10")
        self.assertEqual(told([-1], 1), "11")
        self.assertEqual(told([2], 2), "100")
        self.assertEqual(told([3], 2), "101")
        self.assertEqual(told([-2], 2), "110")
        self.assertEqual(told([-3], 2), "111")
        self.assertEqual(told([1], 2), "010")
        self.assertEqual(told([5], 3), "1001")
        self.assertEqual(told([-6], 3), "1110")

    def test_more_planes_than_the_least(self):
        self.assertEqual(told([0], 3), "000")
        self.assertEqual(told([0, 0, 0], 2), "00")
        self.assertEqual(told([1], 4), "00010")
        self.assertEqual(told([0, 1], 2), "0100")

    def test_the_rest_that_is_sure_is_told_no_bit(self):
        # 1: one wakes; 1 0: the first, above 0; 0: not the rest.
        self.assertEqual(told([1, 0], 1), "1100")
        # 1: one wakes; 0: not the first; so the rest is sure, and only its sign is told.
        self.assertEqual(told([0, 1], 1), "100")
        self.assertEqual(told([0, -1], 1), "101")
        self.assertEqual(told([1, -1], 1), "11011")

    def test_a_sure_rest_with_halves(self):
        # Of four: 1, the first two 0, the rest sure; its first half 1 and sign 0, its rest 0.
        self.assertEqual(told([0, 0, 1, 0], 1), "10100")
        # The rest is sure, its first half is not, so the rest of the rest is sure.
        self.assertEqual(told([0, 0, 0, 1], 1), "1000")
        self.assertEqual(told([0, 0, 0, -1], 1), "1001")

    def test_halves_of_an_odd_run(self):
        # Of three: the first alone, then two.
        self.assertEqual(told([1, 0, 0], 1), "1100")
        self.assertEqual(told([0, 1, 0], 1), "10100")
        self.assertEqual(told([0, 0, 1], 1), "1000")

    def test_awake_parts_are_walked_without_a_bit_of_their_own(self):
        # Row 1: 1, first 1 0, rest 0. Row 0: the part is awake: the bit 1 of the first; the rest is not sure: 0.
        self.assertEqual(told([3, 0], 2), "1100" + "10")
        self.assertEqual(told([2, 1], 2), "1100" + "010")
        self.assertEqual(told([1, 2], 2), "100" + "100")
        # In an awake part nothing is sure, though no number of its first half wakes.
        self.assertEqual(told([0, 0, 2, 1], 2), "10100" + "0" + "0" + "10")

    def test_numbers_that_wake_in_the_first_row_the_last_row_and_none(self):
        self.assertEqual(told([4, 1, 0], 3), "1100" + "00" + "0110" + "0")
        self.assertEqual(told([0, 1, 4], 3), "1000" + "000" + "0100")


class ByTheDefinition(unittest.TestCase):
    def test_all_small_lists(self):
        for many in range(1, 5):
            for numbers in itertools.product(range(-4, 5), repeat=many):
                numbers = list(numbers)
                planes = planes_of(numbers)
                self.assertEqual(told(numbers, planes), plainly_told(numbers, planes), numbers)

    def test_lists_of_any_length(self):
        chance = random.Random(171)
        for turn in range(400):
            many = chance.randint(1, 40)
            numbers = some_row(chance, many, chance.choice((1, 5, 999)))
            numbers = [number * chance.choice((0, 1, 1)) for number in numbers]
            planes = planes_of(numbers) + chance.choice((0, 0, 1, 5))
            self.assertEqual(told(numbers, planes), plainly_told(numbers, planes), numbers)

    def test_numbers_of_three_hundred_figures_and_lists_of_thousands(self):
        chance = random.Random(172)
        numbers = some_row(chance, 20, UTMOST) + [0, 1, -1]
        self.assertEqual(told(numbers, planes_of(numbers)), plainly_told(numbers, planes_of(numbers)))
        numbers = [chance.choice((0, 0, 0, 1, -2, 5)) for k in range(5000)]
        self.assertEqual(told(numbers, 4), plainly_told(numbers, 4))

    def test_up_to_4000_planes(self):
        self.assertEqual(told([0] * 5000, 4000), "0" * 4000)
        self.assertEqual(told([0, 0, -1], 4000), "0" * 3999 + "1001")

    def test_each_text_is_told_of_one_list_alone(self):
        found = {}
        for numbers in itertools.product(range(-3, 4), repeat=4):
            found.setdefault(told(list(numbers), 2), []).append(numbers)
        self.assertEqual(len(found), 7 ** 4)
        # So well filled that the texts' shares of all texts come to the whole: no bit is there for nothing.
        longest = max(len(bits) for bits in found)
        self.assertEqual(sum(2 ** (longest - len(bits)) for bits in found), 2 ** longest)


class NothingIsChanged(unittest.TestCase):
    def test_the_list_handed_in_stays(self):
        numbers = [3, 0, -7, 1]
        self.assertEqual(planes_of(numbers), 3)
        first = told(numbers, 3)
        self.assertEqual(numbers, [3, 0, -7, 1])
        self.assertEqual(told(numbers, 3), first)
        self.assertIs(type(first), str)


if __name__ == "__main__":
    unittest.main()
