"""Lifts and ladders, and rows raised and lowered by them."""

from liftwave.errors import NoLadder
from liftwave.kinds import is_number
from liftwave.spans import holds

HALF = 0
LEFT = 1
RIGHT = 2
ADD = 3
SHIFT = 4

PART_SPANS = ((0, 1), (-8, 8), (-8, 8), (-64, 64), (0, 8))
MOST_LIFTS = 6

LADDERS = {
    "still": (),
    "pair": ((1, -1, 0, 0, 0), (0, 0, 1, 0, 1)),
    "line": ((1, -1, -1, 1, 1), (0, 1, 1, 2, 2)),
    "long": ((1, -1, -1, 1, 1), (0, 1, 1, 2, 2), (1, -1, -1, 4, 3)),
}


def is_lift(thing):
    if not isinstance(thing, tuple) or len(thing) != len(PART_SPANS):
        return False
    return all([is_number(part) and holds(span, part) for part, span in zip(thing, PART_SPANS)])


def is_ladder(thing):
    if not isinstance(thing, tuple) or len(thing) > MOST_LIFTS:
        return False
    return all([is_lift(lift) for lift in thing])


def ladder_of(name):
    if name not in LADDERS:
        raise NoLadder(f"no ladder is called {name!r}")
    return LADDERS[name]


def neighbours(at, many, stride):
    left = at - stride
    right = at + stride
    if left < 0 and right >= many:
        return None
    if left < 0:
        return (right, right)
    if right >= many:
        return (left, left)
    return (left, right)


def lifted_places(half, many, stride):
    found = []
    for at in range(half * stride, many, 2 * stride):
        pair = neighbours(at, many, stride)
        if pair is not None:
            found.append((at, pair[0], pair[1]))
    return found


def gain(lift, left, right):
    return (lift[LEFT] * left + lift[RIGHT] * right + lift[ADD]) >> lift[SHIFT]


# A lift may be done in place, and undone by the same gains: the neighbours of a
# thing are always of the other half, which the lift leaves as it is.


def raised(row, ladder, stride):
    things = list(row)
    for lift in ladder:
        for at, left, right in lifted_places(lift[HALF], len(row), stride):
            things[at] += gain(lift, things[left], things[right])
    return things


def lowered(row, ladder, stride):
    things = list(row)
    for lift in reversed(ladder):
        for at, left, right in lifted_places(lift[HALF], len(row), stride):
            things[at] -= gain(lift, things[left], things[right])
    return things
