"""Streams written as texts, and such texts read, cut off behind any letter."""

from liftwave.errors import NoText
from liftwave.packs import packed, unpacked
from liftwave.spans import holds
from liftwave.streams import LADDER, is_head, walk_of

NAME = "liftwave"
NO_LIFTS = "-"
FIGURES = "0123456789"
FIGURE_SPAN = (1, 4)

# Of the words of a text: the name, the four numbers of the head, the lifts, the letters.
NUMBERS_START = 1
LIFTS = 5
LETTERS = 6
WORDS = 7


def read_number(word):
    figures = word[1:] if word.startswith("-") else word
    if figures.strip(FIGURES) != "" or not holds(FIGURE_SPAN, len(figures)):
        raise NoText("a number has one to four figures")
    if figures.startswith("0") and word != "0":
        raise NoText("a number has no noughts ahead, and 0 no sign")
    return int(word)


def written_lift(lift):
    return ",".join([str(number) for number in lift])


def written_ladder(ladder):
    if len(ladder) == 0:
        return NO_LIFTS
    return ";".join([written_lift(lift) for lift in ladder])


def written(head, bits):
    numbers = [str(number) for number in head[:LADDER]]
    return " ".join([NAME] + numbers + [written_ladder(head[LADDER]), packed(bits)])


def read_lift(word):
    return tuple([read_number(part) for part in word.split(",")])


def read_ladder(word):
    if word == NO_LIFTS:
        return ()
    return tuple([read_lift(part) for part in word.split(";")])


def read_head(words):
    numbers = [read_number(word) for word in words[NUMBERS_START:LIFTS]]
    head = tuple(numbers + [read_ladder(words[LIFTS])])
    if not is_head(head):
        raise NoText("the numbers are those of no head")
    return head


def read_text(text):
    words = text.split(" ")
    if len(words) != WORDS or words[0] != NAME:
        raise NoText("a text is liftwave HIGH WIDE LEVELS PLANES LIFTS LETTERS")
    head = read_head(words)
    bits = unpacked(words[LETTERS])
    walk = walk_of(head, bits)
    behind = bits[walk.used:]
    # Packing fills up the last letter alone, and with 0s.
    if len(behind) > 3 or "1" in behind:
        raise NoText("bits stand behind the end of the stream")
    return (head, bits[:walk.used], walk.is_whole())
