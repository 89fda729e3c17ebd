"""Bits packed into letters, four by four."""

from liftwave.errors import NoText

LETTERS = "abcdefghijklmnop"
FOURS = (
    "0000", "0001", "0010", "0011", "0100", "0101", "0110", "0111",
    "1000", "1001", "1010", "1011", "1100", "1101", "1110", "1111",
)


def packed(bits):
    filled = bits + "0" * (-len(bits) % 4)
    return "".join([LETTERS[FOURS.index(filled[at:at + 4])] for at in range(0, len(filled), 4)])


def four_of(letter):
    if letter not in LETTERS:
        raise NoText("a letter is one from a to p")
    return FOURS[LETTERS.find(letter)]


def unpacked(letters):
    return "".join([four_of(letter) for letter in letters])
