"""Levels and pieces of a picture, read alone."""

from liftwave.errors import NoLevel, NoPiece
from liftwave.lowering import needs
from liftwave.sheets import opened_spans, thinned
from liftwave.spans import holds
from liftwave.streams import HIGH, LADDER, LEVELS, WIDE, head_places, sheet_of

# Stands where a piece does not hang on what is there.
LEFT_OUT = (0, 0)


def level(head, spans, k):
    if not holds((0, head[LEVELS]), k):
        raise NoLevel("no such level is in this picture")
    return thinned(opened_spans(sheet_of(head, spans), head[LADDER], head[LEVELS], k), k)


def is_run(start, many, most):
    return start >= 0 and many >= 1 and start + many <= most


def divided(numbers, stride):
    return [number for number in numbers if number % stride == 0]


def pairs(rows, columns):
    found = []
    for i in rows:
        found.extend([(i, j) for j in columns])
    return found


def cone(head, top, left, high, wide):
    if not is_run(top, high, head[HIGH]) or not is_run(left, wide, head[WIDE]):
        raise NoPiece("no such piece is in this picture")
    rows = list(range(top, top + high))
    columns = list(range(left, left + wide))
    found = []
    for k in range(head[LEVELS]):
        stride = 1 << k
        rows = needs(rows, head[LADDER], head[HIGH], stride)[-1]
        columns = needs(columns, head[LADDER], head[WIDE], stride)[-1]
        twice = 2 * stride
        own = [place for place in pairs(rows, columns) if place[0] % twice != 0 or place[1] % twice != 0]
        # Greater levels come first in the order of places.
        found = own + found
        rows = divided(rows, twice)
        columns = divided(columns, twice)
    return pairs(rows, columns) + found


def piece(head, spans, top, left, high, wide):
    inside = dict([(place, True) for place in cone(head, top, left, high, wide)])
    known = [span if place in inside else LEFT_OUT for place, span in zip(head_places(head), spans)]
    rows = level(head, known, 0)[top:top + high]
    return [row[left:left + wide] for row in rows]
