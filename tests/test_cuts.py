"""Points 2, 6, 25 and 27: bounds, and how many bits are enough."""

import random
import unittest

from helping import (NAMES, UTMOST, broadest_of, each_thing, plainly_seen, some_cuts, some_ladder, some_picture,
                     some_streams)
from liftwave.bitreading import ends
from liftwave.cuts import bounds, broad, enough, least
from liftwave.lifts import ladder_of
from liftwave.sheets import opened_breadths
from liftwave.streams import coded

LINE = ladder_of("line")


class Bounds(unittest.TestCase):
    def test_by_hand(self):
        self.assertEqual(bounds((2, 3, 2, 8, ()), 0), [[0] * 3] * 2)
        self.assertEqual(bounds((2, 3, 2, 8, ()), 1), [[2] * 3] * 2)
        self.assertEqual(bounds((2, 3, 2, 8, ()), 8), [[510] * 3] * 2)
        # Of pair, the even one gains half of 6, the odd one then all of the even one.
        self.assertEqual(bounds((1, 2, 1, 8, ladder_of("pair")), 2), [[9, 15]])
        self.assertEqual(bounds((1, 1, 6, 8, LINE), 3), [[14]])

    def test_each_plane(self):
        chance = random.Random(250)
        for name in NAMES:
            for levels in range(7):
                for ladder in (ladder_of(name), some_ladder(chance, 6)):
                    head = (5, 6, levels, 12, ladder)
                    for plane in range(13):
                        sheet = [[2 * (2 ** plane - 1)] * 6 for i in range(5)]
                        self.assertEqual(bounds(head, plane), opened_breadths(sheet, ladder, levels))

    def test_at_4000_planes_and_64_by_64(self):
        self.assertEqual(bounds((1, 1, 0, 4000, ()), 4000), [[2 ** 4001 - 2]])
        told = bounds((64, 64, 6, 4000, LINE), 4000)
        self.assertEqual((len(told), {len(row) for row in told}), (64, {64}))

    def test_behind_each_row_no_span_is_broader(self):
        for chance, picture, ladder, levels in some_streams(251):
            head, bits = coded(picture, ladder, levels)
            cuts = [0] + ends(bits, head[0] * head[1], head[3])
            self.assertEqual(len(cuts), head[3] + 1)
            for row, cut in enumerate(cuts):
                most = each_thing(bounds(head, head[3] - row))
                for span, bound in zip(each_thing(plainly_seen(head, bits[:cut])), most, strict=True):
                    self.assertLessEqual(span[1] - span[0], bound)

    def test_ahead_of_the_first_row_still_reaches_them(self):
        for planes in range(1, 9):
            head = (2, 2, 3, planes, ())
            breadths = [[high - low for low, high in row] for row in plainly_seen(head, "")]
            self.assertEqual(breadths, bounds(head, planes))

    def test_the_sheet_is_the_askers_own(self):
        head = (2, 2, 0, 8, ())
        told = bounds(head, 3)
        told[0][0] = None
        self.assertEqual(told, [[None, 14], [14, 14]])
        self.assertEqual(bounds(head, 3), [[14, 14], [14, 14]])


class Broad(unittest.TestCase):
    def test_by_hand(self):
        head, bits = coded([[5]], (), 0)
        self.assertEqual([broad(head, bits, many) for many in range(5)], [14, 14, 3, 1, 0])

    def test_the_greatest_wherever_it_stands(self):
        # Cut behind the sign of one number, the others are as broad as ahead of all bits.
        head, bits = coded([[1, 0, 0]], (), 0)
        self.assertEqual([broad(head, bits, many) for many in range(len(bits) + 1)], [2, 2, 2, 2, 0])
        head, bits = coded([[1], [0], [0]], (), 0)
        self.assertEqual([broad(head, bits, many) for many in range(len(bits) + 1)], [2, 2, 2, 2, 0])
        head, bits = coded([[0, 0], [0, 1]], (), 0)
        self.assertEqual([broad(head, bits, many) for many in range(len(bits) + 1)], [2, 2, 2, 2, 0])

    def test_of_no_bits_some_and_all(self):
        for chance, picture, ladder, levels in some_streams(270):
            head, bits = coded(picture, ladder, levels)
            for many in some_cuts(chance, bits, 5):
                self.assertEqual(broad(head, bits, many), broadest_of(plainly_seen(head, bits[:many])))
            self.assertEqual(broad(head, bits, len(bits)), 0)
            self.assertEqual(broad(head, bits + "1011", len(bits) + 4), 0)

    def test_planes_0(self):
        self.assertEqual(broad((3, 3, 2, 0, LINE), "", 0), 0)

    def test_longer_beginnings_are_no_broader(self):
        for chance, picture, ladder, levels in some_streams(271):
            head, bits = coded(picture, ladder, levels)
            told = [broad(head, bits, many) for many in some_cuts(chance, bits, 8)]
            self.assertEqual(told, sorted(told, reverse=True))


class Least(unittest.TestCase):
    def asked(self, low, high, answer):
        numbers = []

        def good(number):
            numbers.append(number)
            return number >= answer

        self.assertEqual(least(low, high, good), max(low, min(high, answer)))
        self.assertTrue(all(low <= number <= high for number in numbers), numbers)
        self.assertLessEqual(len(numbers), (high - low).bit_length() + 2)

    def test_low_and_high_the_same_and_one_apart(self):
        for low in (0, 1, 7, UTMOST):
            self.asked(low, low, low)
            self.asked(low, low + 1, low)
            self.asked(low, low + 1, low + 1)

    def test_each_answer_of_each_small_range(self):
        for low in (0, 1, 5):
            for high in range(low, low + 40):
                for answer in range(low, high + 1):
                    self.asked(low, high, answer)

    def test_far_apart(self):
        for low in (0, 1, 12345):
            for high in (10 ** 6, 2 ** 64 - 1, 2 ** 64, 2 ** 64 + 1, UTMOST):
                for answer in (low, low + 1, (low + high) // 2, (low + high) // 2 + 1, high - 1, high):
                    self.asked(low, high, answer)

    def test_below_0(self):
        for answer in range(-9, 4):
            self.asked(-9, 3, answer)


class Enough(unittest.TestCase):
    def test_by_hand(self):
        head, bits = coded([[5]], (), 0)
        self.assertEqual([enough(head, bits, most) for most in (0, 1, 2, 3, 4, 13, 14, 15)], [4, 3, 3, 2, 2, 2, 0, 0])

    def check(self, head, bits, most):
        told = enough(head, bits, most)
        by_looking = [many for many in range(len(bits) + 1) if broad(head, bits, many) <= most]
        self.assertEqual(told, by_looking[0] if by_looking else None)

    def test_the_least_of_all_numbers(self):
        chance = random.Random(272)
        for ladder in [ladder_of(name) for name in NAMES] + [some_ladder(chance, 3)]:
            for levels in (0, 1, 2):
                head, bits = coded(some_picture(chance, 3, 4, 20), ladder, levels)
                for most in (0, 1, 5, 17, 40, UTMOST):
                    self.check(head, bits, most)

    def test_it_is_enough_and_one_bit_less_is_not(self):
        for chance, picture, ladder, levels in some_streams(273):
            head, bits = coded(picture, ladder, levels)
            for most in (0, 1, 7, 60, broad(head, bits, 0) - 1, broad(head, bits, 0), UTMOST):
                if most >= 0:
                    many = enough(head, bits, most)
                    with self.subTest(picture=picture, ladder=ladder, levels=levels, most=most):
                        self.assertLessEqual(broadest_of(plainly_seen(head, bits[:many])), most)
                        if many > 0:
                            self.assertGreater(broadest_of(plainly_seen(head, bits[:many - 1])), most)

    def test_very_great_breadths_need_no_bits(self):
        head, bits = coded([[5, 6], [7, 8]])
        self.assertEqual(enough(head, bits, 10 ** 200), 0)
        self.assertEqual(enough(head, bits, broad(head, bits, 0)), 0)
        self.assertNotEqual(enough(head, bits, broad(head, bits, 0) - 1), 0)

    def test_planes_0(self):
        self.assertEqual(enough((3, 3, 2, 0, LINE), "", 0), 0)
        self.assertEqual(enough((3, 3, 2, 0, LINE), "", 9), 0)

    def test_none_where_all_bits_are_not_enough(self):
        head, bits = coded([[5]], (), 0)
        self.assertIsNone(enough(head, bits[:3], 0))
        self.assertIsNone(enough(head, bits[:1], 13))
        self.assertIsNone(enough(head, "", 13))
        self.assertEqual(enough(head, "", 14), 0)
        self.assertEqual(enough(head, bits[:3], 1), 3)
        for chance, picture, ladder, levels in some_streams(274):
            head, bits = coded(picture, ladder, levels)
            some = bits[:chance.randint(0, len(bits))]
            most = broad(head, some, len(some))
            self.assertLessEqual(enough(head, some, most), len(some))
            if most > 0:
                self.assertIsNone(enough(head, some, most - 1))

    def test_bits_behind_the_whole_stream_are_not_counted(self):
        head, bits = coded([[5]], (), 0)
        self.assertEqual(enough(head, bits + "0110", 0), 4)

    def test_numbers_of_three_hundred_figures(self):
        head, bits = coded([[UTMOST, -UTMOST], [1, 0]])
        for most in (0, 1, 10 ** 100, UTMOST):
            many = enough(head, bits, most)
            self.assertLessEqual(broad(head, bits, many), most)
            self.assertGreater(broad(head, bits, many - 1), most)

    def test_64_by_64(self):
        head, bits = coded(some_picture(random.Random(275), 64, 64, 3), LINE, 6)
        many = enough(head, bits, 20)
        self.assertLessEqual(broad(head, bits, many), 20)
        self.assertGreater(broad(head, bits, many - 1), 20)


if __name__ == "__main__":
    unittest.main()
