"""Points 2 to 4, 20 and 26: bit rows read from any beginning."""

import itertools
import random
import unittest

from helping import UTMOST, PlainReading, plainly_read, single, some_bits, some_row
from liftwave.bitreading import ends, read
from liftwave.bitrows import planes_of, told


def each_list():
    chance = random.Random(200)
    for numbers in ([0], [1], [-1], [5], [-6], [0, 0], [0, 1], [1, 0], [0, 0, 0], [7, -7, 0, 1], [0, 0, 0, -8]):
        yield numbers, planes_of(numbers)
        yield numbers, planes_of(numbers) + 2
    for turn in range(150):
        many = chance.randint(1, 12)
        numbers = [number * chance.choice((0, 1, 1)) for number in some_row(chance, many, chance.choice((1, 6, 999)))]
        yield numbers, planes_of(numbers) + chance.choice((0, 0, 1, 3))


class ByHand(unittest.TestCase):
    def test_of_no_bits(self):
        self.assertEqual(read("", 1, 3), ([(-7, 7)], 0, False))
        self.assertEqual(read("", 3, 1), ([(-1, 1)] * 3, 0, False))
        self.assertEqual(read("", 2, 4000), ([(1 - 2 ** 4000, 2 ** 4000 - 1)] * 2, 0, False))

    def test_with_planes_0(self):
        self.assertEqual(read("", 1, 0), ([(0, 0)], 0, True))
        self.assertEqual(read("0110", 3, 0), ([(0, 0)] * 3, 0, True))

    def test_one_number_above_0(self):
        bits = told([5], 3)
        self.assertEqual(bits, "1001")
        self.assertEqual(read(bits[:1], 1, 3), ([(-7, 7)], 1, False))
        self.assertEqual(read(bits[:2], 1, 3), ([(4, 7)], 2, False))
        self.assertEqual(read(bits[:3], 1, 3), ([(4, 5)], 3, False))
        self.assertEqual(read(bits, 1, 3), ([(5, 5)], 4, True))

    def test_one_number_below_0(self):
        bits = told([-5], 3)
        self.assertEqual(bits, "1101")
        self.assertEqual(read(bits[:1], 1, 3), ([(-7, 7)], 1, False))
        self.assertEqual(read(bits[:2], 1, 3), ([(-7, -4)], 2, False))
        self.assertEqual(read(bits[:3], 1, 3), ([(-5, -4)], 3, False))
        self.assertEqual(read(bits, 1, 3), ([(-5, -5)], 4, True))

    def test_as_long_as_none_wakes(self):
        self.assertEqual(read("0", 2, 3), ([(-3, 3)] * 2, 1, False))
        self.assertEqual(read("00", 2, 3), ([(-1, 1)] * 2, 2, False))
        self.assertEqual(read("000", 2, 3), ([(0, 0)] * 2, 3, True))

    def test_within_a_row(self):
        # One of four wakes, not in the first half: that half is calm, the rest is known no better without its sign.
        self.assertEqual(read("1", 4, 2), ([(-3, 3)] * 4, 1, False))
        self.assertEqual(read("10", 4, 2), ([(-1, 1)] * 2 + [(-3, 3)] * 2, 2, False))
        self.assertEqual(read("100", 4, 2), ([(-1, 1)] * 3 + [(-3, 3)], 3, False))
        self.assertEqual(read("1001", 4, 2), ([(-1, 1)] * 3 + [(-3, -2)], 4, False))

    def test_bits_behind_the_whole_stream_are_not_looked_at(self):
        for behind in ("0", "1", "0110", "1" * 50):
            self.assertEqual(read("1001" + behind, 1, 3), ([(5, 5)], 4, True))
            self.assertEqual(ends("1001" + behind, 1, 3), [2, 3, 4])

    def test_ends(self):
        self.assertEqual(ends("", 1, 0), [])
        self.assertEqual(ends("01", 1, 0), [])
        self.assertEqual(ends("", 1, 3), [])
        self.assertEqual(ends("1", 1, 3), [])
        self.assertEqual(ends("10", 1, 3), [2])
        self.assertEqual(ends("100", 1, 3), [2, 3])
        self.assertEqual(ends("1001", 1, 3), [2, 3, 4])
        self.assertEqual(ends("000", 2, 3), [1, 2, 3])


class ByTheDefinition(unittest.TestCase):
    def test_every_beginning(self):
        for numbers, planes in each_list():
            bits = told(numbers, planes)
            many = len(numbers)
            for cut in range(len(bits) + 1):
                with self.subTest(numbers=numbers, planes=planes, cut=cut):
                    self.assertEqual(read(bits[:cut], many, planes), plainly_read(bits[:cut], many, planes))
                    self.assertEqual(ends(bits[:cut], many, planes), PlainReading(bits[:cut], many, planes).ends)

    def test_every_short_text(self):
        for many, planes in ((1, 1), (1, 3), (2, 1), (2, 2), (3, 2), (5, 1), (4, 3)):
            for length in range(9):
                for bits in itertools.product("01", repeat=length):
                    bits = "".join(bits)
                    self.assertEqual(read(bits, many, planes), plainly_read(bits, many, planes))
                    self.assertEqual(ends(bits, many, planes), PlainReading(bits, many, planes).ends)

    def test_long_texts(self):
        chance = random.Random(201)
        for many, planes in ((1, 300), (7, 40), (100, 9), (5000, 3), (5000, 4000)):
            bits = some_bits(chance, 20000)
            self.assertEqual(read(bits, many, planes), plainly_read(bits, many, planes))
            self.assertEqual(ends(bits, many, planes), PlainReading(bits, many, planes).ends)


class ThePromise(unittest.TestCase):
    def test_all_bits_tell_each_number(self):
        for numbers, planes in each_list():
            bits = told(numbers, planes)
            self.assertEqual(read(bits, len(numbers), planes), (single(numbers), len(bits), True))
            self.assertEqual(len(ends(bits, len(numbers), planes)), planes)
            self.assertEqual(ends(bits, len(numbers), planes)[-1:], [len(bits)][:planes])

    def test_only_all_bits_are_whole(self):
        for numbers, planes in each_list():
            bits = told(numbers, planes)
            for cut in range(len(bits)):
                spans, used, whole = read(bits[:cut], len(numbers), planes)
                self.assertEqual((used, whole), (cut, False))

    def test_each_number_lies_in_its_span_and_longer_within_shorter(self):
        for numbers, planes in each_list():
            bits = told(numbers, planes)
            shorter = [(1 - 2 ** planes, 2 ** planes - 1)] * len(numbers)
            for cut in range(len(bits) + 1):
                spans = read(bits[:cut], len(numbers), planes)[0]
                for number, one, other in zip(numbers, spans, shorter, strict=True):
                    self.assertTrue(other[0] <= one[0] <= number <= one[1] <= other[1])
                shorter = spans

    def test_behind_the_row_of_a_plane_no_span_is_broader_than_it_says(self):
        for numbers, planes in each_list():
            bits = told(numbers, planes)
            for row, end in enumerate(ends(bits, len(numbers), planes)):
                power = 2 ** (planes - 1 - row)
                for low, high in read(bits[:end], len(numbers), planes)[0]:
                    self.assertLessEqual(high - low, 2 * (power - 1))

    def test_every_text_that_is_long_enough_begins_with_the_bits_of_one_list(self):
        chance = random.Random(202)
        for turn in range(300):
            many = chance.randint(1, 9)
            planes = chance.randint(0, 6)
            text = some_bits(chance, 2 * many * (planes + 1) + 2 * planes)
            spans, used, whole = read(text, many, planes)
            self.assertTrue(whole)
            numbers = [low for low, high in spans]
            self.assertEqual(spans, single(numbers))
            self.assertEqual(told(numbers, planes), text[:used])

    def test_numbers_of_three_hundred_figures(self):
        chance = random.Random(203)
        numbers = some_row(chance, 30, UTMOST) + [0, -1]
        bits = told(numbers, planes_of(numbers))
        self.assertEqual(read(bits, 32, planes_of(numbers)), (single(numbers), len(bits), True))


class KindsAndCopies(unittest.TestCase):
    def test_kinds(self):
        for bits, many, planes in (("", 1, 0), ("10", 2, 3), ("1001", 1, 3)):
            answer = read(bits, many, planes)
            self.assertIs(type(answer), tuple)
            self.assertEqual([type(part) for part in answer], [list, int, bool])
            for span in answer[0]:
                self.assertIs(type(span), tuple)
                self.assertEqual([type(end) for end in span], [int, int])
            self.assertIs(type(ends(bits, many, planes)), list)

    def test_told_lists_are_the_askers_own(self):
        spans = read("10", 2, 3)[0]
        spans[0] = None
        self.assertNotIn(None, read("10", 2, 3)[0])
        some = ends("1001", 1, 3)
        some.append(99)
        self.assertEqual(ends("1001", 1, 3), [2, 3, 4])


if __name__ == "__main__":
    unittest.main()
