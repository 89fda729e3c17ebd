"""How broad the spans are behind so many bits, and how many bits are enough."""

from liftwave.pieces import level
from liftwave.sheets import opened_breadths
from liftwave.spans import broadest
from liftwave.streams import HIGH, LADDER, LEVELS, WIDE, walk_of


def bounds(head, plane):
    # No span is broader behind the row of the plane than that of a number whose sign was not read.
    most = 2 * ((1 << plane) - 1)
    sheet = [[most] * head[WIDE] for i in range(head[HIGH])]
    return opened_breadths(sheet, head[LADDER], head[LEVELS])


def broad(head, bits, many):
    spans = walk_of(head, bits[:many]).spans()
    return max([broadest(row) for row in level(head, spans, 0)])


def least(low, high, good):
    below = low
    found = high
    while below < found:
        middle = (below + found) // 2
        if good(middle):
            found = middle
        else:
            below = middle + 1
    return found


def enough(head, bits, breadth):
    # Longer beginnings are no broader, so what is enough can be found by halving.
    def fits(many):
        return broad(head, bits, many) <= breadth

    if not fits(len(bits)):
        return None
    return least(0, len(bits), fits)
