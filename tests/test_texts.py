"""Points 30 and 31: streams written as texts, and such texts read."""

import random
import re
import unittest

from helping import (NAMES, SIGNS, UTMOST, altered, plainly_read, some_bits, some_ladder, some_picture, some_streams,
                     with_planes)
from liftwave.bitrows import told
from liftwave.errors import NoText
from liftwave.lifts import ladder_of
from liftwave.streams import coded
from liftwave.texts import read_number, read_text, written

LETTERS = "abcdefghijklmnop"
NUMBER = "(0|-?[1-9][0-9]{0,3})"
LIFT = ",".join([NUMBER] * 5)
TEXT = re.compile(f"liftwave {NUMBER} {NUMBER} {NUMBER} {NUMBER} (-|{LIFT}(;{LIFT})*) ([a-p]*)")
LIFT_RANGES = ((0, 1), (-8, 8), (-8, 8), (-64, 64), (0, 8))
HEAD_RANGES = ((1, 64), (1, 64), (0, 6), (0, 4000))


def in_ranges(numbers, ranges):
    return len(numbers) == len(ranges) and all(low <= number <= high for number, (low, high) in zip(numbers, ranges))


def read_by_looking(text):
    """Points 30 and 31 by a pattern; None where the text is refused."""
    if not TEXT.fullmatch(text):
        return None
    words = text.split(" ")
    numbers = tuple(int(word) for word in words[1:5])
    lifts = () if words[5] == "-" else tuple(
        tuple(int(part) for part in lift.split(",")) for lift in words[5].split(";"))
    if not in_ranges(numbers, HEAD_RANGES) or len(lifts) > 6 or not all(in_ranges(one, LIFT_RANGES) for one in lifts):
        return None
    bits = "".join(f"{LETTERS.index(letter):04b}" for letter in words[6])
    spans, used, whole = plainly_read(bits, numbers[0] * numbers[1], numbers[3])
    if whole and (len(bits) - used > 3 or "1" in bits[used:]):
        return None
    return (numbers + (lifts,), bits[:used], whole)


class ReadNumber(unittest.TestCase):
    def test_every_number_there_is(self):
        for number in range(-9999, 10000):
            told_number = read_number(str(number))
            self.assertEqual(told_number, number)
            self.assertIs(type(told_number), int)

    def test_refused(self):
        for word in ("", "-", "--", "-0", "00", "000", "0000", "-00", "01", "007", "0123", "-01", "-0001", "10000",
                     "-10000", "12345", "00001", "99999", "1" * 500, "0" * 500, "-" + "1" * 500, "+1", "+0", "+",
                     " 1", "1 ", " ", "1 2", "- 1", "-1 ", "--1", "1-", "1-2", "-1-", "1.0", "1.", ".1", "1,2", "1_0",
                     "1e3", "0x1", "0b1", "a", "one", "1a", "a1", "1;", "\n", "1\n", "\n1", "1\t"):
            with self.subTest(word=word):
                with self.assertRaises(NoText):
                    read_number(word)

    def test_any_word_of_up_to_three_signs_of_some(self):
        for one in SIGNS:
            for other in [""] + list(SIGNS):
                for third in ("", "0", "7", "-", " "):
                    word = one + other + third
                    if re.fullmatch(NUMBER, word):
                        self.assertEqual(read_number(word), int(word))
                    else:
                        with self.assertRaises(NoText):
                            read_number(word)


class Written(unittest.TestCase):
    def test_by_hand(self):
        # 5 is told as 1, its sign 0, 0 and 1.
        self.assertEqual(written(*coded([[5]], (), 0)), "liftwave 1 1 0 3 - j")
        self.assertEqual(written(*coded([[-2]], (), 4)), "liftwave 1 1 4 2 - m")
        self.assertEqual(written(*with_planes([[-2]], (1, 1, 0, 0, ()), 3)), "liftwave 1 1 0 3 - g")

    def test_each_named_ladder(self):
        asked = {"still": "-", "pair": "1,-1,0,0,0;0,0,1,0,1", "line": "1,-1,-1,1,1;0,1,1,2,2",
                 "long": "1,-1,-1,1,1;0,1,1,2,2;1,-1,-1,4,3"}
        for name in NAMES:
            self.assertEqual(written(*coded([[5]], ladder_of(name), 2)), f"liftwave 1 1 2 3 {asked[name]} j")

    def test_six_lifts_and_the_utmost_numbers(self):
        ladder = ((0, -8, 8, -64, 8), (1, 8, -8, 64, 0), (0, 0, 0, 0, 0), (1, 1, 1, 1, 1), (0, -1, -1, -1, 7),
                  (1, 2, -3, 40, 5))
        head = (64, 63, 6, 4000, ladder)
        asked = "liftwave 64 63 6 4000 0,-8,8,-64,8;1,8,-8,64,0;0,0,0,0,0;1,1,1,1,1;0,-1,-1,-1,7;1,2,-3,40,5 "
        self.assertEqual(written(head, "0" * 4000), asked + "a" * 1000)

    def test_no_letters(self):
        self.assertEqual(written((2, 3, 1, 0, ()), ""), "liftwave 2 3 1 0 - ")
        self.assertEqual(written(*coded([[0, 0], [0, 0]])), "liftwave 2 2 2 0 1,-1,-1,1,1;0,1,1,2,2 ")

    def test_the_pattern_of_every_text(self):
        for chance, picture, ladder, levels in some_streams(300):
            head, bits = coded(picture, ladder, levels)
            text = written(head, bits)
            self.assertTrue(TEXT.fullmatch(text), text)
            self.assertEqual(len(text.rpartition(" ")[2]), (len(bits) + 3) // 4)
            self.assertTrue(set(text) <= set(SIGNS))


class ReadText(unittest.TestCase):
    def test_by_hand(self):
        self.assertEqual(read_text("liftwave 1 1 0 3 - j"), ((1, 1, 0, 3, ()), "1001", True))
        self.assertEqual(read_text("liftwave 1 1 0 3 - "), ((1, 1, 0, 3, ()), "", False))
        # Whole behind three bits, of which the fourth is filling.
        self.assertEqual(read_text("liftwave 1 1 0 3 - a"), ((1, 1, 0, 3, ()), "000", True))
        self.assertEqual(read_text("liftwave 1 1 4 2 - m"), ((1, 1, 4, 2, ()), "110", True))
        self.assertEqual(read_text("liftwave 2 3 1 0 - "), ((2, 3, 1, 0, ()), "", True))
        self.assertEqual(read_text("liftwave 1 2 0 9 1,-1,0,0,0;0,0,1,0,1 aa"),
                         ((1, 2, 0, 9, ((1, -1, 0, 0, 0), (0, 0, 1, 0, 1))), "0" * 8, False))

    def test_kinds(self):
        head, bits, whole = read_text("liftwave 1 1 0 3 1,-1,0,0,0;0,0,1,0,1 j")
        self.assertEqual([type(thing) for thing in (head, bits, whole)], [tuple, str, bool])
        self.assertEqual([type(thing) for thing in head], [int, int, int, int, tuple])
        self.assertEqual([type(lift) for lift in head[4]], [tuple, tuple])

    def test_what_was_written(self):
        for chance, picture, ladder, levels in some_streams(310):
            head, bits = coded(picture, ladder, levels)
            self.assertEqual(read_text(written(head, bits)), (head, bits, True))
            more = with_planes(picture, head, head[3] + chance.randint(1, 9))
            self.assertEqual(read_text(written(*more)), more + (True,))

    def test_numbers_of_three_hundred_figures_and_4000_planes(self):
        chance = random.Random(311)
        stream = coded(some_picture(chance, 2, 2, UTMOST), some_ladder(chance, 6), 6)
        self.assertEqual(read_text(written(*stream)), stream + (True,))
        stream = ((1, 2, 0, 4000, ()), told([2 ** 4000 - 1, -1], 4000))
        self.assertEqual(read_text(written(*stream)), stream + (True,))

    def test_each_beginning(self):
        for chance, picture, ladder, levels in some_streams(312):
            head, bits = coded(picture, ladder, levels)
            text = written(head, bits)
            start = text.rindex(" ") + 1
            cuts = list(range(start)) + [chance.randint(start, len(text)) for k in range(12)] + [start, len(text)]
            for cut in cuts:
                if cut < start:
                    with self.assertRaises(NoText):
                        read_text(text[:cut])
                else:
                    there = bits[:4 * (cut - start)]
                    self.assertEqual(read_text(text[:cut]), (head, there, len(there) == len(bits)))

    def test_twenty_thousand_signs(self):
        text = "liftwave 64 64 6 4000 - "
        letters = "p" * (20000 - len(text))
        head, bits, whole = read_text(text + letters)
        self.assertEqual((head, len(bits), whole), ((64, 64, 6, 4000, ()), 4 * len(letters), False))
        for wrong in ("a" * 20000, " " * 20000, text + "q" * 19000, "liftwave 1 1 0 1 " + "0,0,0,0,0;" * 1900 + " ",
                      "liftwave 1 1 0 1 " + "1," * 9000 + " ", "liftwave " + "1 " * 9000):
            with self.assertRaises(NoText):
                read_text(wrong)


class BehindTheEnd(unittest.TestCase):
    def refused(self, text):
        with self.subTest(text=text):
            with self.assertRaises(NoText):
                read_text(text)

    def test_each_last_letter(self):
        for planes in range(1, 4):
            for number in range(-2 ** planes + 1, 2 ** planes):
                head, bits = with_planes([[number]], (1, 1, 0, 0, ()), planes)
                for letter in LETTERS:
                    text = f"liftwave 1 1 0 {planes} - {letter}"
                    if not f"{LETTERS.index(letter):04b}".startswith(bits):
                        continue
                    if letter == written(head, bits)[-1]:
                        self.assertEqual(read_text(text), (head, bits, True))
                    else:
                        self.refused(text)

    def test_a_letter_more(self):
        for chance, picture, ladder, levels in some_streams(313):
            text = written(*coded(picture, ladder, levels))
            for letter in LETTERS:
                self.refused(text + letter)
            self.refused(text + "a" * 100)

    def test_a_1_behind_the_end(self):
        seen = 0
        for chance, picture, ladder, levels in some_streams(314):
            head, bits = coded(picture, ladder, levels)
            text = written(head, bits)
            lacking = -len(bits) % 4
            for number in range(1, 2 ** lacking):
                last = LETTERS[LETTERS.index(text[-1]) + number]
                self.refused(text[:-1] + last)
                seen += 1
        self.assertGreater(seen, 20)

    def test_planes_0_has_no_letters(self):
        for letter in LETTERS:
            self.refused("liftwave 2 3 1 0 - " + letter)


class Refusals(unittest.TestCase):
    def refused(self, text):
        self.assertIsNone(read_by_looking(text), text)
        with self.subTest(text=text):
            with self.assertRaises(NoText):
                read_text(text)

    def test_words(self):
        for text in ("", " ", "liftwave", "liftwave ", "liftwav 1 1 0 3 - j", "Liftwave 1 1 0 3 - j",
                     "LIFTWAVE 1 1 0 3 - j", "liftwaves 1 1 0 3 - j", "wave 1 1 0 3 - j", "1 1 0 3 - j",
                     " 1 1 0 3 - j", "liftwave 1 0 3 - j", "liftwave 1 1 3 - j", "liftwave 1 1 0 - j",
                     "liftwave 1 1 0 3 j", "liftwave 1 1 0 3 -", "liftwave 1 1 0 3", "liftwave 1 1 0 3 ",
                     "liftwave 1 1 1 0 3 - j", "liftwave 1 1 0 3 - - j", "liftwave 1 1 0 3 - j j",
                     "liftwave,1,1,0,3,-,j", "liftwave 1 1 0 3 - j a"):
            self.refused(text)

    def test_blanks(self):
        text = "liftwave 1 1 0 3 - j"
        for at in range(len(text) + 1):
            self.refused(text[:at] + " " + text[at:])
        for at in [place for place, sign in enumerate(text) if sign == " "]:
            self.refused(text[:at] + "  " + text[at + 1:])
            self.refused(text[:at] + "\t" + text[at + 1:])
            self.refused(text[:at] + text[at + 1:])
        self.refused("liftwave 1 1 0 3 -  ")
        self.refused("liftwave 1 1 0 3 -  j")
        self.refused("liftwave 1 1 0 0 -  ")
        self.refused("liftwave 1 1 0 3 - j\n")

    def test_numbers(self):
        good = ["1", "1", "0", "3"]
        for at in range(4):
            for word in ("", "-", "-0", "-1", "00", "01", "003", "+1", "1.0", "x", "10000", "-10", "65536"):
                words = good[:at] + [word] + good[at + 1:]
                self.refused(" ".join(["liftwave"] + words + ["-", ""]))

    def test_numbers_that_are_no_heads(self):
        for numbers in ("0 1 0 3", "1 0 0 3", "65 1 0 3", "1 65 0 3", "-1 1 0 3", "1 -1 0 3", "1 1 7 3", "1 1 -1 3",
                        "1 1 0 4001", "1 1 0 -1", "1 1 0 9999", "9999 1 0 3", "1 1 9999 3", "0 0 0 0"):
            self.refused(f"liftwave {numbers} - ")
        for numbers in ("64 1 0 3", "1 64 0 3", "64 64 6 4000", "1 1 0 4000", "1 1 6 0"):
            read_text(f"liftwave {numbers} - ")

    def test_lifts(self):
        for lifts in ("", "--", "-;", ";-", "-,", "-;-", "0", "1,2", "0,0,0,0", "0,0,0,0,0,0", "0,0,0,0,", ",0,0,0,0",
                      "0,,0,0,0", "0,0,0,0,0;", ";0,0,0,0,0", "0,0,0,0,0;;0,0,0,0,0", "0,0,0,0,0;0,0,0,0",
                      "0,0,0,0;0,0,0,0,0", "0,0,0,0,0;0,0,0,0,0,0", "-;0,0,0,0,0", "0,0,0,0,0;-", "-0,0,0,0,0",
                      "0,0,0,0,-0", "00,0,0,0,0", "0,0,0,0,01", "0,0,0,+1,0", "0,0,0,0.0,0", "0;0;0;0;0",
                      "(0,0,0,0,0)", "0,0,0,0,0:0,0,0,0,0", "a", "line", "0,0,0,0,x", "0,0,0,10000,0"):
            self.refused(f"liftwave 1 1 0 3 {lifts} ")
            self.refused(f"liftwave 1 1 0 3 {lifts} j")

    def test_lifts_out_of_their_ranges(self):
        for at, (low, high) in enumerate(LIFT_RANGES):
            for number in (low - 1, high + 1, 9999, -9999):
                lift = ["0"] * 5
                lift[at] = str(number)
                self.refused(f"liftwave 1 1 0 3 {','.join(lift)} ")
                self.refused(f"liftwave 1 1 0 3 0,0,0,0,0;{','.join(lift)} ")
            for number in (low, high):
                lift = [0] * 5
                lift[at] = number
                text = f"liftwave 1 1 0 3 {','.join(str(part) for part in lift)} "
                self.assertEqual(read_text(text), ((1, 1, 0, 3, (tuple(lift),)), "", False))

    def test_six_lifts_are_read_and_seven_refused(self):
        for many in range(1, 7):
            text = f"liftwave 1 1 0 3 {';'.join(['1,-1,0,0,0'] * many)} j"
            self.assertEqual(read_text(text), ((1, 1, 0, 3, ((1, -1, 0, 0, 0),) * many), "1001", True))
        self.refused(f"liftwave 1 1 0 3 {';'.join(['1,-1,0,0,0'] * 7)} j")
        self.refused(f"liftwave 1 1 0 3 {';'.join(['1,-1,0,0,0'] * 70)} j")

    def test_signs_that_are_no_letters(self):
        for sign in set(SIGNS) - set(LETTERS):
            for letters in (sign, sign + "aa", "a" + sign + "a", "aa" + sign):
                self.refused("liftwave 2 2 0 9 - " + letters)

    def test_letters_behind_the_end_that_are_none(self):
        for behind in ("q", "A", "0", " ", "-"):
            self.refused("liftwave 1 1 0 3 - j" + behind)


class AnyText(unittest.TestCase):
    def check(self, text):
        asked = read_by_looking(text)
        if asked is None:
            with self.assertRaises(NoText, msg=text):
                read_text(text)
        else:
            self.assertEqual(read_text(text), asked, text)
        return asked is not None

    def test_each_text_that_is_one_sign_away(self):
        for text in ("liftwave 1 1 0 3 - j", "liftwave 2 1 10 0 - ", "liftwave 1 2 1 4 1,-1,0,10,0;0,8,1,-6,2 mc"):
            read = [self.check(other) for other in altered(text)]
            self.assertIn(True, read)
            self.assertIn(False, read)

    def test_texts_several_signs_away(self):
        chance = random.Random(315)
        read = []
        for turn in range(4000):
            text = written((1, chance.randint(1, 3), chance.randint(0, 6), chance.randint(1, 4),
                            some_ladder(chance, chance.randint(0, 6))), some_bits(chance, chance.randint(0, 20)))
            for k in range(chance.randint(0, 2)):
                at = chance.randint(0, len(text))
                put = chance.choice("0123-,; apq") * chance.randint(0, 2)
                text = text[:at] + put + text[at + chance.randint(0, 1):]
            read.append(self.check(text))
        self.assertGreater(read.count(True), 300)
        self.assertGreater(read.count(False), 300)


if __name__ == "__main__":
    unittest.main()
