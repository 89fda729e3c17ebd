"""Pictures laid into waves, level within level, and sheets opened and thinned."""

from liftwave.kinds import is_number
from liftwave.lifts import lowered, raised
from liftwave.lowering import lowered_breadths, lowered_spans
from liftwave.spans import holds

SIZES = (1, 64)


def is_row(thing, wide):
    if not isinstance(thing, list) or len(thing) != wide:
        return False
    return all([is_number(number) for number in thing])


def is_picture(thing):
    if not isinstance(thing, list) or not holds(SIZES, len(thing)):
        return False
    if not isinstance(thing[0], list) or not holds(SIZES, len(thing[0])):
        return False
    return all([is_row(row, len(thing[0])) for row in thing])


def change_rows(sheet, doing, ladder, stride):
    for i in range(0, len(sheet), stride):
        sheet[i] = doing(sheet[i], ladder, stride)


def change_columns(sheet, doing, ladder, stride):
    for j in range(0, len(sheet[0]), stride):
        column = doing([row[j] for row in sheet], ladder, stride)
        for i in range(0, len(sheet), stride):
            sheet[i][j] = column[i]


def laid(picture, ladder, levels):
    sheet = thinned(picture, 0)
    for k in range(levels):
        change_rows(sheet, raised, ladder, 1 << k)
        change_columns(sheet, raised, ladder, 1 << k)
    return sheet


def opened_by(lowering, wave, ladder, levels, down):
    sheet = thinned(wave, 0)
    for k in range(levels - 1, down - 1, -1):
        change_columns(sheet, lowering, ladder, 1 << k)
        change_rows(sheet, lowering, ladder, 1 << k)
    return sheet


def opened(wave, ladder, levels, down=0):
    return opened_by(lowered, wave, ladder, levels, down)


def opened_spans(sheet, ladder, levels, down=0):
    return opened_by(lowered_spans, sheet, ladder, levels, down)


def opened_breadths(sheet, ladder, levels, down=0):
    return opened_by(lowered_breadths, sheet, ladder, levels, down)


def thinned(sheet, k):
    return [row[::1 << k] for row in sheet[::1 << k]]
