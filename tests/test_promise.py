"""Points 3 and 4, of one stream: what is read from all its bits and from any beginning of them."""

import itertools
import random
import unittest

from helping import (UTMOST, bits_of, holds_each, sheet_within, single, some_bits, some_cuts, some_ladder,
                     some_picture, some_streams, with_planes)
from liftwave.bitreading import read
from liftwave.reader import Reader
from liftwave.sheets import opened
from liftwave.streams import coded, sheet_of


def fed(head, bits):
    reader = Reader(head)
    reader.feed(bits)
    return reader


class FromAllBits(unittest.TestCase):
    def test_the_picture_is_read_just_as_it_was(self):
        for chance, picture, ladder, levels in some_streams(30):
            head, bits = coded(picture, ladder, levels)
            reader = fed(head, bits)
            self.assertIs(reader.is_whole(), True)
            self.assertEqual(reader.seen(), [single(row) for row in picture])

    def test_of_three_hundred_figures(self):
        chance = random.Random(31)
        picture = some_picture(chance, 4, 5, UTMOST)
        head, bits = coded(picture, some_ladder(chance, 6), 6)
        self.assertEqual(fed(head, bits).seen(), [single(row) for row in picture])

    def test_in_more_planes_than_the_least(self):
        for chance, picture, ladder, levels in some_streams(32):
            head = coded(picture, ladder, levels)[0]
            head, bits = with_planes(picture, head, head[3] + chance.randint(1, 5))
            reader = fed(head, bits)
            self.assertIs(reader.is_whole(), True)
            self.assertEqual(reader.seen(), [single(row) for row in picture])


class FromAnyBeginning(unittest.TestCase):
    def test_each_cell_lies_in_its_span_and_longer_within_shorter(self):
        for chance, picture, ladder, levels in some_streams(33):
            head, bits = coded(picture, ladder, levels)
            shorter = Reader(head).seen()
            for cut in some_cuts(chance, bits, 12):
                sheet = fed(head, bits[:cut]).seen()
                self.assertTrue(holds_each(sheet, picture))
                self.assertTrue(sheet_within(sheet, shorter))
                shorter = sheet

    def test_every_beginning_of_a_small_picture(self):
        chance = random.Random(34)
        for levels in range(3):
            picture = some_picture(chance, 3, 3, 9)
            head, bits = coded(picture, some_ladder(chance, 2), levels)
            reader = Reader(head)
            shorter = reader.seen()
            for bit in bits:
                reader.feed(bit)
                self.assertTrue(holds_each(reader.seen(), picture))
                self.assertTrue(sheet_within(reader.seen(), shorter))
                shorter = reader.seen()

    def test_and_so_of_every_picture_whose_bits_begin_so(self):
        for chance, picture, ladder, levels in some_streams(35):
            head, bits = coded(picture, ladder, levels)
            cut = chance.randint(0, len(bits))
            sheet = fed(head, bits[:cut]).seen()
            for turn in range(3):
                other = bits[:cut] + some_bits(chance, 2 * head[0] * head[1] * (head[3] + 1))
                spans, used, whole = read(other, head[0] * head[1], head[3])
                self.assertIs(whole, True)
                wave = sheet_of(head, [low for low, high in spans])
                self.assertTrue(holds_each(sheet, opened(wave, ladder, levels)))


class NoBitForNothing(unittest.TestCase):
    def test_every_text_that_is_long_enough_begins_with_the_bits_of_one_picture(self):
        chance = random.Random(36)
        for turn in range(100):
            head = (chance.randint(1, 4), chance.randint(1, 4), chance.randint(0, 6), chance.randint(0, 6),
                    some_ladder(chance, chance.randint(0, 6)))
            many = head[0] * head[1]
            text = some_bits(chance, 2 * many * (head[3] + 1) + 2 * head[3])
            used = read(text, many, head[3])[1]
            sheet = fed(head, text[:used]).seen()
            picture = [[low for low, high in row] for row in sheet]
            self.assertEqual(sheet, [single(row) for row in picture])
            self.assertEqual(bits_of(picture, head), text[:used])

    def test_and_with_those_of_one_alone(self):
        # All pictures of a head, told: no text begins another one, and together they fill all there is.
        for ladder in ((), ((1, -1, 0, 0, 0), (0, 0, 1, 0, 1)), ((0, 3, -2, 1, 1),)):
            head = (2, 2, 1, 2, ladder)
            texts = {}
            for numbers in itertools.product(range(-3, 4), repeat=4):
                picture = opened(sheet_of(head, list(numbers)), ladder, 1)
                texts.setdefault(bits_of(picture, head), []).append(picture)
            self.assertEqual([len(some) for some in texts.values()], [1] * 7 ** 4)
            longest = max(len(bits) for bits in texts)
            self.assertEqual(sum(2 ** (longest - len(bits)) for bits in texts), 2 ** longest)
            for one, other in itertools.pairwise(sorted(texts)):
                self.assertFalse(other.startswith(one))


if __name__ == "__main__":
    unittest.main()
