"""Points 2, 6 and 28: several streams shared out to a number of bits in all."""

import itertools
import random
import unittest

from helping import (UTMOST, broadest_of, plainly_seen, some_bits, some_ladder, some_picture, some_streams, with_planes)
from liftwave.bitrows import told
from liftwave.cuts import broad, enough
from liftwave.errors import NoBits
from liftwave.lifts import ladder_of
from liftwave.sharing import share
from liftwave.streams import coded

LINE = ladder_of("line")
# Its beginnings are 14, 14, 3, 1 and 0 broad.
FIVE = coded([[5]], (), 0)
# Its beginnings are 6, 6, 1 and 0 broad.
TWO = coded([[-2]], (), 0)
# Of planes 0: whole with no bits, and never broader than 0.
NOTHING = ((2, 3, 1, 0, LINE), "")


def all_bits(streams):
    return sum(len(bits) for head, bits in streams)


def breadths(stream):
    """Of all beginnings, by plain reading."""
    head, bits = stream
    return [broadest_of(plainly_seen(head, bits[:many])) for many in range(len(bits) + 1)]


def some_few(chance, many, most):
    return [coded(some_picture(chance, chance.randint(1, 3), chance.randint(1, 3), chance.randint(0, most)),
                  some_ladder(chance, chance.randint(0, 3)), chance.randint(0, 3)) for k in range(many)]


def totals(chance, streams):
    most = all_bits(streams)
    return {0, 1, max(0, most - 1), most, most + 1, 10 * most, UTMOST, chance.randint(0, most), chance.randint(0, most)}


class Shared(unittest.TestCase):
    def check(self, streams, total):
        least, numbers = share(streams, total)
        self.assertEqual(numbers, [enough(head, bits, least) for head, bits in streams])
        self.assertLessEqual(sum(numbers), total)
        self.assertGreaterEqual(least, 0)
        if least > 0:
            self.assertGreater(sum(enough(head, bits, least - 1) for head, bits in streams), total)
        return least, numbers

    def test_one_stream_by_hand(self):
        asked = [(14, [0]), (14, [0]), (3, [2]), (1, [3]), (0, [4]), (0, [4])]
        self.assertEqual([share([FIVE], total) for total in range(6)], asked)
        self.assertEqual(share([FIVE], UTMOST), (0, [4]))

    def test_two_streams_by_hand(self):
        self.assertEqual(len(TWO[1]), 3)
        asked = {0: (14, [0, 0]), 1: (14, [0, 0]), 2: (6, [2, 0]), 3: (6, [2, 0]), 4: (3, [2, 2]), 5: (1, [3, 2]),
                 6: (1, [3, 2]), 7: (0, [4, 3]), 8: (0, [4, 3]), 70: (0, [4, 3])}
        for total, told_share in asked.items():
            with self.subTest(total=total):
                self.assertEqual(share([FIVE, TWO], total), told_share)
                self.assertEqual(share([TWO, FIVE], total), (told_share[0], told_share[1][::-1]))

    def test_the_same_stream_several_times(self):
        # What is left over for one of them is not given out: the breadth would not fall by it.
        asked = [(14, [0] * 3)] * 6 + [(3, [2] * 3)] * 3 + [(1, [3] * 3)] * 3 + [(0, [4] * 3)] * 2
        self.assertEqual([share([FIVE] * 3, total) for total in range(14)], asked)

    def test_no_bits_in_all(self):
        self.assertEqual(share([FIVE, TWO, NOTHING], 0), (14, [0, 0, 0]))
        self.assertEqual(share([TWO, NOTHING], 0), (6, [0, 0]))

    def test_planes_0(self):
        for total in (0, 1, 9, UTMOST):
            self.assertEqual(share([NOTHING], total), (0, [0]))
            self.assertEqual(share([NOTHING] * 4, total), (0, [0] * 4))
        asked = [(14, [0, 0, 0]), (14, [0, 0, 0]), (3, [0, 2, 0]), (1, [0, 3, 0]), (0, [0, 4, 0]), (0, [0, 4, 0])]
        self.assertEqual([share([NOTHING, FIVE, NOTHING], total) for total in range(6)], asked)

    def test_one_stream_of_each_sort(self):
        for chance, picture, ladder, levels in some_streams(280):
            stream = coded(picture, ladder, levels)
            for total in totals(chance, [stream]):
                with self.subTest(picture=picture, ladder=ladder, levels=levels, total=total):
                    self.check([stream], total)

    def test_several_streams_by_plain_reading(self):
        chance = random.Random(281)
        for turn in range(60):
            streams = some_few(chance, chance.randint(1, 6), chance.choice((1, 6, 40)))
            known = [breadths(stream) for stream in streams]
            for total in totals(chance, streams):
                for least in sorted({breadth for some in known for breadth in some}):
                    numbers = [[breadth <= least for breadth in some].index(True) for some in known]
                    if sum(numbers) <= total:
                        break
                with self.subTest(streams=streams, total=total):
                    self.assertEqual(share(streams, total), (least, numbers))
                    self.check(streams, total)

    def test_each_total(self):
        chance = random.Random(282)
        for many in (1, 2, 3, 5):
            streams = some_few(chance, many, 7)
            told_before = None
            for total in range(all_bits(streams) + 3):
                least = self.check(streams, total)[0]
                self.assertTrue(told_before is None or least <= told_before)
                told_before = least
            self.assertEqual(told_before, 0)

    def test_no_other_cutting_to_no_more_bits_is_better(self):
        streams = [FIVE, TWO, coded([[1, -1]], (), 0), coded([[3, 1]], ladder_of("pair"), 1)]
        known = [breadths(stream) for stream in streams]
        best = {}
        for cut in itertools.product(*[range(len(some)) for some in known]):
            greatest = max(some[many] for some, many in zip(known, cut))
            best[sum(cut)] = min(greatest, best.get(sum(cut), greatest))
        for total in range(all_bits(streams) + 1):
            least, numbers = share(streams, total)
            self.assertEqual(least, min(greatest for many, greatest in best.items() if many <= total))
            self.assertEqual(least, max(some[many] for some, many in zip(known, numbers)))

    def test_more_planes_than_the_least(self):
        chance = random.Random(284)
        for turn in range(20):
            streams = []
            for k in range(3):
                picture = some_picture(chance, 2, 2, 9)
                streams.append(with_planes(picture, coded(picture)[0], chance.randint(8, 40)))
            for total in totals(chance, streams):
                self.check(streams, total)

    def test_streams_that_are_far_from_alike(self):
        # One of them alone is broad, and has nearly all the bits that there are.
        great = coded([[UTMOST, 3], [-UTMOST, 1]])
        streams = [FIVE, great, NOTHING, TWO]
        for total in (0, 1, 100, len(great[1]) // 2, len(great[1]), all_bits(streams) - 1, all_bits(streams)):
            self.check(streams, total)
        least, numbers = share(streams, len(great[1]) // 2)
        self.assertEqual([numbers[0], numbers[2], numbers[3]], [0, 0, 0])
        self.assertGreater(least, 10 ** 100)

    def test_numbers_of_three_hundred_figures(self):
        chance = random.Random(285)
        streams = [coded(some_picture(chance, 2, 2, UTMOST), some_ladder(chance, 6), 6) for k in range(4)]
        for total in totals(chance, streams):
            self.check(streams, total)

    def test_4000_planes(self):
        chance = random.Random(286)
        streams = [((1, 3, 0, 4000, ()), told([chance.getrandbits(4000) for j in range(3)], 4000)) for k in range(3)]
        least = self.check(streams, all_bits(streams) // 2)[0]
        self.assertGreater(least, 10 ** 500)
        self.check(streams, all_bits(streams) - 1)
        self.assertEqual(share(streams, all_bits(streams))[0], 0)

    def test_64_by_64(self):
        chance = random.Random(287)
        streams = [coded(some_picture(chance, 64, 64, 2), LINE, levels) for levels in (2, 6)]
        self.check(streams, all_bits(streams) // 2)

    def test_five_thousand_streams(self):
        chance = random.Random(288)
        streams = [coded([[chance.randint(-300, 300)]], (), 0) for k in range(5000)]
        for total in (0, all_bits(streams) // 2):
            self.check(streams, total)

    def test_kinds(self):
        told_share = share([FIVE, TWO], 4)
        self.assertEqual((type(told_share), len(told_share)), (tuple, 2))
        self.assertEqual((type(told_share[0]), type(told_share[1])), (int, list))


class Refusals(unittest.TestCase):
    def refused(self, stream):
        for streams in ([stream], [stream, FIVE], [FIVE, stream], [FIVE, stream, TWO], [NOTHING, TWO, stream],
                        [stream, stream]):
            for total in (0, 3, 1000):
                with self.subTest(streams=streams, total=total):
                    with self.assertRaises(NoBits):
                        share(streams, total)

    def test_cut(self):
        for head, bits in (FIVE, TWO, coded([[9, -3], [0, 1]])):
            for cut in range(len(bits)):
                self.refused((head, bits[:cut]))

    def test_bits_behind_the_end(self):
        for head, bits in (FIVE, TWO, NOTHING, coded([[9, -3], [0, 1]])):
            for behind in ("0", "1", "00", "0110", "0" * 50):
                self.refused((head, bits + behind))

    def test_of_many_the_last_one_alone(self):
        with self.assertRaises(NoBits):
            share([FIVE] * 200 + [(FIVE[0], FIVE[1][:-1])], 0)
        with self.assertRaises(NoBits):
            share([FIVE] * 200 + [(FIVE[0], FIVE[1] + "0")], 10 ** 6)

    def test_any_stream_that_is_whole_is_taken(self):
        for chance, picture, ladder, levels in some_streams(289):
            head, bits = coded(picture, ladder, levels)
            share([(head, bits)], chance.randint(0, 99))
            with self.assertRaises(NoBits):
                share([(head, bits + some_bits(chance, 1))], chance.randint(0, 99))


class CopiesAlone(unittest.TestCase):
    def test_the_list_of_streams_stays(self):
        streams = [TWO, FIVE, NOTHING]
        for total in (0, 3, 5, 7, 100):
            share(streams, total)
            self.assertEqual(streams, [TWO, FIVE, NOTHING])
        streams.append((FIVE[0], ""))
        with self.assertRaises(NoBits):
            share(streams, 3)
        self.assertEqual(streams, [TWO, FIVE, NOTHING, (FIVE[0], "")])

    def test_the_told_list_is_the_askers_own(self):
        told_share = share([FIVE, TWO], 5)
        told_share[1][0] = None
        told_share[1].append(None)
        self.assertEqual(share([FIVE, TWO], 5), (1, [3, 2]))
        self.assertEqual(told_share, (1, [None, 2, None]))

    def test_asked_again_and_of_others_in_between(self):
        before = share([FIVE, TWO], 4)
        share([TWO, TWO], 3)
        share([NOTHING], 0)
        self.assertEqual(share([FIVE, TWO], 4), before)
        self.assertEqual(broad(FIVE[0], FIVE[1], before[1][0]), 3)


if __name__ == "__main__":
    unittest.main()
