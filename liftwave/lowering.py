"""Rows of spans and rows of breadths lowered by a ladder, and what is needed to lower a row at some places."""

from liftwave.lifts import ADD, HALF, LEFT, RIGHT, SHIFT, lifted_places, neighbours
from liftwave.spans import halved, minus, plus, times


def gain_span(lift, left, right):
    # Left and right each for itself, so that one thing that stands for both counts as two.
    both = plus(times(left, lift[LEFT]), times(right, lift[RIGHT]))
    return halved(plus(both, (lift[ADD], lift[ADD])), lift[SHIFT])


def lowered_spans(row, ladder, stride):
    things = list(row)
    for lift in reversed(ladder):
        for at, left, right in lifted_places(lift[HALF], len(row), stride):
            things[at] = minus(things[at], gain_span(lift, things[left], things[right]))
    return things


def gain_breadth(lift, left, right):
    # The shift goes down, so that what is below 0 is rounded away from it: up, when the sign is turned back.
    return -(-(left * abs(lift[LEFT]) + right * abs(lift[RIGHT])) >> lift[SHIFT])


def lowered_breadths(row, ladder, stride):
    things = list(row)
    for lift in reversed(ladder):
        for at, left, right in lifted_places(lift[HALF], len(row), stride):
            things[at] += gain_breadth(lift, things[left], things[right])
    return things


def with_neighbours(wanted, half, many, stride):
    found = list(wanted)
    for at in wanted:
        pair = neighbours(at, many, stride)
        if at // stride % 2 == half and pair is not None:
            found.extend(pair)
    return sorted(set(found))


def needs(wanted, ladder, many, stride):
    lists = [list(wanted)]
    for lift in ladder:
        lists.append(with_neighbours(lists[-1], lift[HALF], many, stride))
    return lists
