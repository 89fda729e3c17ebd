"""Points 2 and 22: readers, fed some bits at a time."""

import random
import unittest

from helping import plainly_read, plainly_seen, single, some_bits, some_cuts, some_picture, some_streams
from liftwave.errors import NoBits, NoHead, TooMany
from liftwave.lifts import ladder_of
from liftwave.reader import Reader
from liftwave.streams import coded

LINE = ladder_of("line")


def state(reader):
    return (reader.many(), reader.is_whole(), reader.spans(), reader.seen())


def state_by_looking(head, bits):
    spans, used, whole = plainly_read(bits, head[0] * head[1], head[3])
    return (len(bits), whole, spans, plainly_seen(head, bits))


def fed(head, portions):
    reader = Reader(head)
    for bits in portions:
        reader.feed(bits)
    return reader


def in_portions(chance, bits):
    cuts = some_cuts(chance, bits, 6)
    found = []
    for start, end in zip(cuts, cuts[1:]):
        found.extend([bits[start:end]] + [""] * chance.randint(0, 2))
    return found


class Fed(unittest.TestCase):
    def test_no_bits(self):
        reader = Reader((1, 2, 0, 3, ()))
        self.assertEqual(state(reader), (0, False, [(-7, 7), (-7, 7)], [[(-7, 7), (-7, 7)]]))

    def test_by_hand(self):
        reader = Reader((1, 1, 0, 3, ()))
        self.assertIsNone(reader.feed("10"))
        self.assertEqual(state(reader), (2, False, [(4, 7)], [[(4, 7)]]))
        self.assertIsNone(reader.feed("01"))
        self.assertEqual(state(reader), (4, True, [(5, 5)], [[(5, 5)]]))

    def test_the_spans_in_the_order_of_places_and_the_picture_opened(self):
        head, bits = coded([[1, 2], [4, 8]], ladder_of("pair"), 1)
        reader = fed(head, [bits])
        self.assertEqual(reader.spans(), single([3, 2, 5, 3]))
        self.assertEqual(reader.seen(), [single([1, 2]), single([4, 8])])
        head, bits = coded([[1, 2, 3]], (), 1)
        self.assertEqual(fed(head, [bits]).spans(), single([1, 3, 2]))

    def test_all_at_once_one_by_one_and_in_any_portions(self):
        for chance, picture, ladder, levels in some_streams(220):
            head, bits = coded(picture, ladder, levels)
            for cut in some_cuts(chance, bits, 3):
                with self.subTest(picture=picture, ladder=ladder, levels=levels, cut=cut):
                    some = bits[:cut]
                    asked = state_by_looking(head, some)
                    self.assertEqual(state(fed(head, [some])), asked)
                    self.assertEqual(state(fed(head, list(some))), asked)
                    self.assertEqual(state(fed(head, in_portions(chance, some))), asked)

    def test_any_text_of_bits(self):
        chance = random.Random(221)
        for turn in range(100):
            head = (chance.randint(1, 6), chance.randint(1, 6), chance.randint(0, 6), chance.randint(1, 30), LINE)
            many = head[0] * head[1]
            bits = some_bits(chance, chance.randint(0, 60))
            bits = bits[:plainly_read(bits, many, head[3])[1]]
            self.assertEqual(state(fed(head, in_portions(chance, bits))), state_by_looking(head, bits))

    def test_asking_between_changes_nothing(self):
        head, bits = coded([[9, -3, 0], [7, 7, 1]])
        reader = Reader(head)
        for number, bit in enumerate(bits):
            self.assertEqual(state(reader), state_by_looking(head, bits[:number]))
            self.assertEqual(state(reader), state_by_looking(head, bits[:number]))
            reader.feed(bit)
        self.assertEqual(state(reader), state_by_looking(head, bits))

    def test_the_empty_text_at_any_time(self):
        head, bits = coded([[9, -3], [0, 1]])
        reader = Reader(head)
        for bit in ["", "", bits[:3], "", bits[3:], "", ""]:
            reader.feed(bit)
        self.assertEqual(state(reader), state_by_looking(head, bits))

    def test_planes_0_is_whole_with_no_bits(self):
        reader = Reader((2, 3, 1, 0, ()))
        self.assertEqual(state(reader), (0, True, [(0, 0)] * 6, [[(0, 0)] * 3] * 2))
        reader.feed("")
        self.assertIs(reader.is_whole(), True)
        for bits in ("0", "1", "01"):
            with self.assertRaises(TooMany):
                reader.feed(bits)
            self.assertEqual(state(reader), (0, True, [(0, 0)] * 6, [[(0, 0)] * 3] * 2))

    def test_4000_planes_and_64_by_64(self):
        reader = Reader((64, 64, 6, 4000, LINE))
        reader.feed("0" * 3999)
        self.assertIs(reader.is_whole(), False)
        self.assertEqual(reader.spans(), [(-1, 1)] * 4096)
        reader.feed("0")
        self.assertIs(reader.is_whole(), True)
        self.assertEqual(reader.spans(), [(0, 0)] * 4096)

    def test_64_by_64_one_by_one(self):
        picture = some_picture(random.Random(222), 64, 64, 255)
        head, bits = coded(picture)
        reader = fed(head, bits)
        self.assertEqual((reader.many(), reader.is_whole()), (len(bits), True))
        self.assertEqual(reader.seen(), [single(row) for row in picture])

    def test_two_readers_know_nothing_of_one_another(self):
        head, bits = coded([[9, -3], [0, 1]])
        one = fed(head, [bits])
        other = Reader(head)
        self.assertEqual(state(other), state_by_looking(head, ""))
        other.feed(bits[:2])
        self.assertEqual(state(one), state_by_looking(head, bits))

    def test_kinds(self):
        reader = fed((1, 2, 0, 3, ()), ["10"])
        self.assertIs(type(reader.many()), int)
        self.assertIs(type(reader.is_whole()), bool)
        self.assertIs(type(reader.spans()), list)
        self.assertEqual([type(row) for row in reader.seen()], [list])


class Refusals(unittest.TestCase):
    def test_no_head(self):
        for thing in (None, True, 0, "", "liftwave", (), [], [1, 1, 0, 0, ()], (1, 1, 0, 0), (1, 1, 0, 0, (), 0),
                      (0, 1, 0, 0, ()), (65, 1, 0, 0, ()), (1, 1, 7, 0, ()), (1, 1, 0, -1, ()), (1, 1, 0, 4001, ()),
                      (1, 1, 0, 0, "line"), (1, 1, 0, 0, None), (1, 1, 0, 0, []), (True, 1, 0, 0, ()),
                      (1, 1, None, 0, ()), ("1", 1, 0, 0, ()), {}, object()):
            with self.subTest(thing=thing):
                with self.assertRaises(NoHead):
                    Reader(thing)

    def refused(self, error, reader, bits):
        before = state(reader)
        with self.assertRaises(error):
            reader.feed(bits)
        self.assertEqual(state(reader), before)

    def test_no_bits(self):
        head, bits = coded([[9, -3], [0, 1]])
        for cut in range(len(bits)):
            reader = fed(head, [bits[:cut]])
            for wrong in ("2", " ", "x", "-", "a0", "0a", "1 ", " 1", "0 1", "01\n", "O", "l", "0x1", "+1",
                          "1" * 500 + "2"):
                self.refused(NoBits, reader, wrong)
            reader.feed(bits[cut:])
            self.assertEqual(state(reader), state_by_looking(head, bits))

    def test_too_many(self):
        head, bits = coded([[9, -3], [0, 1]])
        for cut in range(len(bits) + 1):
            reader = fed(head, [bits[:cut]])
            for behind in ("0", "1", "0101", "1" * 500):
                self.refused(TooMany, reader, bits[cut:] + behind)
            reader.feed(bits[cut:])
            self.assertEqual(state(reader), state_by_looking(head, bits))

    def test_both_at_once_is_no_bits(self):
        head, bits = coded([[9, -3], [0, 1]])
        self.refused(NoBits, fed(head, [bits]), "2")
        self.refused(NoBits, fed(head, [bits]), "0 ")
        self.refused(NoBits, Reader(head), bits + "0000x")
        self.refused(NoBits, Reader((1, 1, 0, 0, ())), "2")

    def test_fed_on_after_refusals(self):
        for chance, picture, ladder, levels in some_streams(223):
            head, bits = coded(picture, ladder, levels)
            reader = Reader(head)
            cut = chance.randint(0, len(bits))
            reader.feed(bits[:cut])
            self.refused(TooMany, reader, bits[cut:] + some_bits(chance, 5))
            self.refused(NoBits, reader, bits[cut:] + "?")
            reader.feed(bits[cut:])
            self.assertEqual(state(reader), state_by_looking(head, bits))


class CopiesAlone(unittest.TestCase):
    def test_told_lists_are_the_askers_own(self):
        head, bits = coded([[9, -3], [0, 1]])
        for some in ("", bits[:5], bits):
            reader = fed(head, [some])
            spans = reader.spans()
            seen = reader.seen()
            spans[0] = None
            spans.append(None)
            for row in seen:
                row[0] = None
                row.append(None)
            seen.append(None)
            self.assertEqual(state(reader), state_by_looking(head, some))

    def test_what_is_told_is_not_changed_by_what_is_fed_later(self):
        head, bits = coded([[9, -3], [0, 1]])
        reader = fed(head, [bits[:5]])
        spans = reader.spans()
        seen = reader.seen()
        reader.feed(bits[5:])
        asked = state_by_looking(head, bits[:5])
        self.assertEqual((spans, seen), (asked[2], asked[3]))


if __name__ == "__main__":
    unittest.main()
