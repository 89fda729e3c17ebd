"""Whole numbers told in bit rows, the greatest plane first."""

from liftwave.walks import ASKS, END, FIGURE, SIGN, START, Walk


def heights_of(some):
    return [abs(number).bit_length() for number in some]


def planes_of(some):
    return max(heights_of(some))


def answer(part, plane, some, heights):
    number = some[part[START]]
    if part[ASKS] == FIGURE:
        return (abs(number) >> plane) & 1 == 1
    if part[ASKS] == SIGN:
        return number < 0
    # None of a part that is asked of is awake, so none is higher than who wakes now.
    return max(heights[part[START]:part[END]]) > plane


def told(some, planes):
    walk = Walk(len(some), planes)
    heights = heights_of(some)
    bits = []
    while not walk.is_whole():
        bit = answer(walk.asked(), walk.plane, some, heights)
        bits.append("1" if bit else "0")
        walk.take(bit)
    return "".join(bits)
