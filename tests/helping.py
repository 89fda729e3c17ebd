"""What several tests share: things made by a seeded chance, and the document's words done plainly."""

import random

from liftwave.bitrows import told
from liftwave.lattice import places
from liftwave.lifts import ladder_of
from liftwave.sheets import laid, opened_spans
from liftwave.streams import sheet_of

NAMES = ("still", "pair", "line", "long")
STRIDES = (1, 2, 4, 8, 16, 32, 64)
GREAT = 10 ** 60 - 1
UTMOST = 10 ** 300 - 1
SIGNS = "".join(chr(sign) for sign in range(ord(" "), ord("~") + 1) if chr(sign) != "%")


def some_number(chance, most):
    return chance.randint(-most, most)


def some_row(chance, many, most):
    return [some_number(chance, most) for k in range(many)]


def some_ladder(chance, many):
    return tuple((chance.randint(0, 1), chance.randint(-8, 8), chance.randint(-8, 8), chance.randint(-64, 64),
                  chance.randint(0, 8)) for k in range(many))


def some_span(chance, most):
    return tuple(sorted(some_row(chance, 2, most)))


def some_within(chance, span):
    return tuple(sorted(chance.randint(span[0], span[1]) for k in range(2)))


def some_picture(chance, high, wide, most):
    return [some_row(chance, wide, most) for i in range(high)]


def some_streams(seed):
    """Pictures of all shapes with the ladder and the levels by which they are to be coded."""
    chance = random.Random(seed)
    for high, wide in ((1, 1), (1, 6), (6, 1), (2, 2), (3, 5), (5, 3), (8, 8), (7, 9), (13, 4)):
        for ladder in [ladder_of(name) for name in NAMES] + [some_ladder(chance, chance.randint(1, 6))]:
            levels = chance.randint(0, 6)
            yield chance, some_picture(chance, high, wide, chance.choice((0, 1, 9, 255))), ladder, levels


def bits_of(picture, head):
    """The bits of a picture in the planes of the head, which may be more than the least."""
    wave = laid(picture, head[4], head[2])
    return told([wave[i][j] for i, j in places(head[0], head[1], head[2])], head[3])


def with_planes(picture, head, planes):
    """The stream of a picture in so many planes."""
    more = head[:3] + (planes,) + head[4:]
    return (more, bits_of(picture, more))


def some_cuts(chance, bits, many):
    """Some numbers of bits, none and all among them."""
    return sorted({0, len(bits)} | {chance.randint(0, len(bits)) for k in range(many)})


def some_bits(chance, many):
    return "".join(chance.choice("01") for k in range(many))


def copied(sheet):
    return [list(row) for row in sheet]


def single(numbers):
    """The spans of one number each."""
    return [(number, number) for number in numbers]


def each_thing(sheet):
    return [thing for row in sheet for thing in row]


def sheet_within(sheet, other):
    return all(b[0] <= a[0] and a[1] <= b[1] for a, b in zip(each_thing(sheet), each_thing(other), strict=True))


def holds_each(sheet, picture):
    pairs = zip(each_thing(sheet), each_thing(picture), strict=True)
    return all(low <= cell <= high for (low, high), cell in pairs)


def altered(text):
    """All texts with one sign of it left out, or any sign put ahead of it or in its place."""
    for at in range(len(text) + 1):
        yield text[:at] + text[at + 1:]
        for sign in SIGNS:
            yield text[:at] + sign + text[at:]
            yield text[:at] + sign + text[at + 1:]


class OutOfBits(Exception):
    pass


def plainly_told(numbers, planes):
    """Points 18 and 19, by recursion over the numbers themselves."""
    bits = []

    def walk(start, end, p, sure):
        part = numbers[start:end]
        middle = (start + end) // 2
        if any(abs(number) >= 2 ** (p + 1) for number in part):
            if len(part) == 1:
                bits.append(str(abs(part[0]) // 2 ** p % 2))
            else:
                walk(start, middle, p, False)
                walk(middle, end, p, False)
            return
        wakes = any(2 ** p <= abs(number) < 2 ** (p + 1) for number in part)
        if not sure:
            bits.append("1" if wakes else "0")
        if wakes and len(part) == 1:
            bits.append("0" if part[0] > 0 else "1")
        elif wakes:
            walk(start, middle, p, False)
            walk(middle, end, p, not any(2 ** p <= abs(number) for number in numbers[start:middle]))

    for p in reversed(range(planes)):
        walk(0, len(numbers), p, False)
    return "".join(bits)


class PlainReading:
    """Point 20, by recursion: of each number its sign, m and q; of the whole the bits used and the ends of rows."""

    def __init__(self, bits, many, planes):
        self.bits = bits
        self.used = 0
        self.signs = [0] * many
        self.m = [0] * many
        self.q = [planes] * many
        self.ends = []
        self.whole = False
        try:
            for p in reversed(range(planes)):
                awake = [sign != 0 for sign in self.signs]
                self.walk(0, many, p, False, awake)
                self.ends.append(self.used)
            self.whole = True
        except OutOfBits:
            pass

    def bit(self):
        if self.used == len(self.bits):
            raise OutOfBits
        self.used += 1
        return self.bits[self.used - 1]

    def walk(self, start, end, p, sure, awake):
        """Whether one of the part wakes in this row."""
        middle = (start + end) // 2
        if any(awake[start:end]):
            if end - start == 1:
                self.m[start] += int(self.bit()) * 2 ** p
                self.q[start] = p
            else:
                self.walk(start, middle, p, False, awake)
                self.walk(middle, end, p, False, awake)
            return False
        if not sure and self.bit() == "0":
            for at in range(start, end):
                self.q[at] = p
            return False
        if end - start == 1:
            self.signs[start] = 1 if self.bit() == "0" else -1
            self.m[start] = 2 ** p
            self.q[start] = p
        else:
            first = self.walk(start, middle, p, False, awake)
            self.walk(middle, end, p, not first, awake)
        return True

    def spans(self):
        found = []
        for sign, m, q in zip(self.signs, self.m, self.q):
            n = 2 ** q
            found.append({0: (1 - n, n - 1), 1: (m, m + n - 1), -1: (1 - m - n, -m)}[sign])
        return found


def plainly_read(bits, many, planes):
    reading = PlainReading(bits, many, planes)
    return (reading.spans(), reading.used, reading.whole)


def plainly_seen(head, bits):
    """The picture as read from these bits."""
    spans = plainly_read(bits, head[0] * head[1], head[3])[0]
    return opened_spans(sheet_of(head, spans), head[4], head[2])


def broadest_of(sheet):
    return max(high - low for low, high in each_thing(sheet))
