"""Point 29: bits packed into letters."""

import random
import unittest

from helping import SIGNS, some_bits
from liftwave.errors import NoText
from liftwave.packs import packed, unpacked

LETTERS = "abcdefghijklmnop"


class Packed(unittest.TestCase):
    def test_each_letter(self):
        for number, letter in enumerate(LETTERS):
            bits = f"{number:04b}"
            with self.subTest(letter=letter):
                self.assertEqual(packed(bits), letter)
                self.assertEqual(unpacked(letter), bits)

    def test_none(self):
        self.assertEqual(packed(""), "")
        self.assertEqual(unpacked(""), "")

    def test_filled_with_0s_behind(self):
        asked = {"0": "a", "1": "i", "00": "a", "01": "e", "10": "i", "11": "m", "000": "a", "001": "c", "110": "m",
                 "111": "o", "1111": "p", "00000": "aa", "11111": "pi", "111111": "pm", "0000001": "ac",
                 "1010101": "kk", "01010101": "ff", "000000001": "aai", "111100001": "pai"}
        for bits, letters in asked.items():
            with self.subTest(bits=bits):
                self.assertEqual(packed(bits), letters)

    def test_one_to_nine_bits(self):
        for many in range(1, 10):
            for number in range(2 ** many):
                bits = f"{number:0{many}b}"
                letters = packed(bits)
                self.assertEqual(len(letters), (many + 3) // 4)
                self.assertEqual(unpacked(letters), bits + "0" * (4 * len(letters) - many))

    def test_all_pairs_of_letters(self):
        for one in LETTERS:
            for other in LETTERS:
                bits = f"{LETTERS.index(one):04b}{LETTERS.index(other):04b}"
                self.assertEqual(unpacked(one + other), bits)
                self.assertEqual(packed(bits), one + other)

    def test_many(self):
        chance = random.Random(290)
        for many in (100, 101, 4097, 20000):
            bits = some_bits(chance, many)
            self.assertEqual(unpacked(packed(bits))[:many], bits)
        letters = "".join(chance.choice(LETTERS) for k in range(20000))
        self.assertEqual(len(unpacked(letters)), 80000)
        self.assertEqual(packed(unpacked(letters)), letters)


class Refusals(unittest.TestCase):
    def test_each_sign_that_is_no_letter_wherever_it_stands(self):
        for sign in set(SIGNS) - set(LETTERS):
            for letters in (sign, sign + "abc", "abc" + sign, "ab" + sign + "cd", sign * 3, "p" * 500 + sign):
                with self.subTest(letters=letters):
                    with self.assertRaises(NoText):
                        unpacked(letters)

    def test_each_sign_that_is_one_is_taken(self):
        for sign in LETTERS:
            self.assertEqual(len(unpacked("ab" + sign + "cd")), 20)


if __name__ == "__main__":
    unittest.main()
