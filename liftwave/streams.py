"""Heads, and pictures coded as streams."""

from liftwave.bitreading import followed
from liftwave.bitrows import planes_of, told
from liftwave.errors import NoLadder, NoLevel, NoPicture
from liftwave.kinds import is_number
from liftwave.lattice import places
from liftwave.lifts import is_ladder, ladder_of
from liftwave.sheets import is_picture, laid
from liftwave.spans import holds

HIGH = 0
WIDE = 1
LEVELS = 2
PLANES = 3
LADDER = 4

# Of the four parts ahead of the ladder.
NUMBER_SPANS = ((1, 64), (1, 64), (0, 6), (0, 4000))


def is_part(thing, at):
    return is_number(thing) and holds(NUMBER_SPANS[at], thing)


def is_head(thing):
    if not isinstance(thing, tuple) or len(thing) != len(NUMBER_SPANS) + 1:
        return False
    return all([is_part(thing[at], at) for at in range(len(NUMBER_SPANS))]) and is_ladder(thing[LADDER])


def head_places(head):
    return places(head[HIGH], head[WIDE], head[LEVELS])


def walk_of(head, bits):
    return followed(bits, head[HIGH] * head[WIDE], head[PLANES])


def coded(picture, ladder=None, levels=2):
    if not is_picture(picture):
        raise NoPicture("a picture is a list of 1 to 64 rows, lists of as many whole numbers each, 1 to 64")
    lifts = ladder_of("line") if ladder is None else ladder
    if not is_ladder(lifts):
        raise NoLadder("a ladder is a tuple of at most six lifts")
    if not is_part(levels, LEVELS):
        raise NoLevel("a picture is laid over 0 to 6 levels")
    wave = laid(picture, lifts, levels)
    high = len(picture)
    wide = len(picture[0])
    numbers = [wave[i][j] for i, j in places(high, wide, levels)]
    planes = planes_of(numbers)
    return ((high, wide, levels, planes, lifts), told(numbers, planes))


def sheet_of(head, spans):
    sheet = [[None] * head[WIDE] for i in range(head[HIGH])]
    for place, thing in zip(head_places(head), spans):
        sheet[place[0]][place[1]] = thing
    return sheet
