"""The walk through the bit rows, one for whoever tells them and whoever reads them."""

# A part is a tuple (ASKS, START, END, SPAN): what the next bit tells of it, its run of
# numbers, and the one span in which each of them is known to lie.
ASKS = 0
START = 1
END = 2
SPAN = 3

WAKING = 0
WAKING_FIRST = 1
SIGN = 2
FIGURE = 3


def part_of_one(part):
    return part[END] - part[START] == 1


def calm_span(plane):
    # Without its sign below 2 to the power of the plane.
    return (1 - (1 << plane), (1 << plane) - 1)


def signed_span(plane, below):
    least = 1 << plane
    if below:
        return (1 - least - least, -least)
    return (least, least + least - 1)


def figured_span(span, plane, figure):
    # A figure 1 leads away from 0: up above it, down below it.
    if figure == (span[0] > 0):
        return (span[0] + (1 << plane), span[1])
    return (span[0], span[1] - (1 << plane))


class Walk:
    # All numbers lie in the parts walked in this row and the parts ahead of it. What is
    # walked is kept as it is walked anew in the next row: awake parts down to their
    # numbers, and what is not awake in parts as great as can be.

    def __init__(self, many, planes):
        self.plane = planes
        self.used = 0
        self.row_ends = []
        self.walked = [(WAKING, 0, many, calm_span(planes))]
        self.ahead = []
        self.turn()

    def turn(self):
        self.plane -= 1
        if self.plane >= 0:
            # The next one last, where it is taken and put without moving the others.
            self.ahead = list(reversed(self.walked))
            self.walked = []

    def is_whole(self):
        return self.plane < 0

    def asked(self):
        return self.ahead[-1]

    def spans(self):
        found = []
        for part in self.walked + list(reversed(self.ahead)):
            found.extend([part[SPAN]] * (part[END] - part[START]))
        return found

    def follow(self, bits):
        for bit in bits:
            if self.is_whole():
                break
            self.take(bit == "1")

    def take(self, told):
        part = self.ahead.pop()
        self.used += 1
        if part[ASKS] == FIGURE:
            self.walk_awake(part, figured_span(part[SPAN], self.plane, told))
        elif part[ASKS] == SIGN:
            self.walk_awake(part, signed_span(self.plane, told))
        elif told:
            self.wake(part)
        else:
            self.calm(part)
        if not self.ahead:
            self.row_ends.append(self.used)
            self.turn()

    def walk_awake(self, part, span):
        self.walked.append((FIGURE, part[START], part[END], span))

    def wake(self, part):
        if part_of_one(part):
            self.ahead.append((SIGN, part[START], part[END], part[SPAN]))
        else:
            middle = (part[START] + part[END]) // 2
            self.ahead.append((WAKING, middle, part[END], part[SPAN]))
            self.ahead.append((WAKING_FIRST, part[START], middle, part[SPAN]))

    def calm(self, part):
        self.walked.append((WAKING, part[START], part[END], calm_span(self.plane)))
        if part[ASKS] == WAKING_FIRST:
            # The rest is sure to wake, so no bit is told of that.
            self.wake(self.ahead.pop())
