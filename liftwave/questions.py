"""Questions about the picture that a text tells."""

from liftwave.cuts import broad
from liftwave.errors import NoRow, NoText
from liftwave.pieces import level, piece
from liftwave.streams import HIGH, WIDE, walk_of
from liftwave.texts import read_number, read_text

# How many numbers stand behind the first word of a row.
NUMBERS_BEHIND = {"size": 0, "bits": 0, "broad": 0, "at": 2, "level": 1, "piece": 4, "all": 0}


def shown_span(span):
    if span[0] == span[1]:
        return str(span[0])
    return "..".join([str(end) for end in span])


def shown_row(row):
    return " ".join([shown_span(span) for span in row])


def shown(sheet):
    return "; ".join([shown_row(row) for row in sheet])


def spans_of(head, bits):
    return walk_of(head, bits).spans()


class Question:
    def answer(self, head, bits, whole):
        return ""


class Size(Question):
    def answer(self, head, bits, whole):
        return " ".join([str(head[HIGH]), str(head[WIDE])])


class Bits(Question):
    def answer(self, head, bits, whole):
        return " ".join([str(len(bits)), "whole" if whole else "cut"])


class Broad(Question):
    def answer(self, head, bits, whole):
        return str(broad(head, bits, len(bits)))


class At(Question):
    def __init__(self, i, j):
        self.i = i
        self.j = j

    def answer(self, head, bits, whole):
        return shown(piece(head, spans_of(head, bits), self.i, self.j, 1, 1))


class Level(Question):
    def __init__(self, k):
        self.k = k

    def answer(self, head, bits, whole):
        return shown(level(head, spans_of(head, bits), self.k))


class Piece(Question):
    def __init__(self, top, left, high, wide):
        self.top = top
        self.left = left
        self.high = high
        self.wide = wide

    def answer(self, head, bits, whole):
        return shown(piece(head, spans_of(head, bits), self.top, self.left, self.high, self.wide))


class All(Question):
    def answer(self, head, bits, whole):
        return shown(level(head, spans_of(head, bits), 0))


def row_number(word):
    try:
        number = read_number(word)
    except NoText:
        raise NoRow("a number in a row is written as in a text") from None
    if number < 0:
        raise NoRow("no number in a row is below 0")
    return number


def asked_by(name, numbers):
    if name == "size":
        return Size()
    if name == "bits":
        return Bits()
    if name == "broad":
        return Broad()
    if name == "at":
        return At(numbers[0], numbers[1])
    if name == "level":
        return Level(numbers[0])
    if name == "piece":
        return Piece(numbers[0], numbers[1], numbers[2], numbers[3])
    return All()


def question(row):
    words = row.split(" ")
    if NUMBERS_BEHIND.get(words[0]) != len(words) - 1:
        raise NoRow("no question is asked by such a row")
    return asked_by(words[0], [row_number(word) for word in words[1:]])


def ask(text, row):
    stream = read_text(text)
    return question(row).answer(stream[0], stream[1], stream[2])
