"""Several streams shared out to a number of bits in all."""

from liftwave.cuts import broad, enough, least
from liftwave.errors import NoBits
from liftwave.streams import walk_of

HEAD = 0
BITS = 1

# A run is a tuple (BREADTH, STREAM, START, END): the beginnings of a stream from that of START bits
# to ahead of that of END bits, and the breadth of the middle one.
BREADTH = 0
STREAM = 1
START = 2
END = 3


def ensure_whole(stream):
    walk = walk_of(stream[HEAD], stream[BITS])
    if not walk.is_whole() or walk.used < len(stream[BITS]):
        raise NoBits("a stream that is shared out is whole, with no bits behind its end")


def middle_of(start, end):
    return (start + end) // 2


class Search:
    # Enough for a breadth is, of each stream, the number of its beginnings that are broader. So where
    # the beginnings of all streams stand in one row, the broadest first, the least breadth that total
    # bits are enough for is that of the one with total others ahead of it.
    #
    # The runs are what is left of that row, the least broad middle first; rest is how many of them
    # stand ahead of the one that is sought, firsts how many stand ahead of the middles of their runs.

    def __init__(self, streams, total):
        self.streams = streams
        self.rest = min(total, sum([len(stream[BITS]) for stream in streams]))
        self.runs = []
        self.firsts = 0
        for at in range(len(streams)):
            self.put(at, 0, len(streams[at][BITS]) + 1)

    def breadth_at(self, at, many):
        return broad(self.streams[at][HEAD], self.streams[at][BITS], many)

    def put(self, at, start, end):
        if start == end:
            return
        runs = self.runs
        middle = middle_of(start, end)
        breadth = self.breadth_at(at, middle)
        place = least(0, len(runs), lambda k: k == len(runs) or runs[k][BREADTH] > breadth)
        runs.insert(place, (breadth, at, start, end))
        self.firsts += middle - start

    def narrow(self):
        # All firsts and all other middles may stand ahead of the least broad middle, and none but the
        # firsts need stand ahead of the broadest one: the one or the other is not the one sought.
        behind = self.rest < self.firsts + len(self.runs) - 1
        run = self.runs.pop(0 if behind else len(self.runs) - 1)
        middle = middle_of(run[START], run[END])
        self.firsts -= middle - run[START]
        if behind:
            self.put(run[STREAM], run[START], middle)
        else:
            self.rest -= middle + 1 - run[START]
            self.put(run[STREAM], middle + 1, run[END])

    def found(self):
        while len(self.runs) > 1:
            self.narrow()
        run = self.runs[0]
        return self.breadth_at(run[STREAM], run[START] + self.rest)


def share(streams, total):
    for stream in streams:
        ensure_whole(stream)
    breadth = Search(streams, total).found()
    return (breadth, [enough(head, bits, breadth) for head, bits in streams])
