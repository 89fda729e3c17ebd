"""Spans: tuples (low, high), all whole numbers from low to high."""


def plus(one, other):
    return (one[0] + other[0], one[1] + other[1])


def minus(one, other):
    return (one[0] - other[1], one[1] - other[0])


def times(one, many):
    # A number below 0 turns the span round, so its ends change places.
    if many < 0:
        return (one[1] * many, one[0] * many)
    return (one[0] * many, one[1] * many)


def halved(one, shift):
    return (one[0] >> shift, one[1] >> shift)


def breadth(one):
    return one[1] - one[0]


def broadest(some):
    return max([breadth(one) for one in some])


def holds(one, number):
    return one[0] <= number <= one[1]


def within(one, other):
    return other[0] <= one[0] and one[1] <= other[1]
