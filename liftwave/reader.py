"""Readers, which are fed bits some at a time."""

from liftwave.errors import NoBits, NoHead, TooMany
from liftwave.pieces import level
from liftwave.streams import is_head, walk_of


class Reader:
    def __init__(self, head):
        if not is_head(head):
            raise NoHead("a head is a tuple (HIGH, WIDE, LEVELS, PLANES, LADDER)")
        self.head = head
        self.fed = []
        self.walk = walk_of(head, "")

    def feed(self, bits):
        if bits.strip("01") != "":
            raise NoBits("bits are 0 and 1 alone")
        self.walk.follow(bits)
        if self.walk.used < len(self.fed) + len(bits):
            # The walk has gone on with bits that are refused: it goes back to those fed before.
            self.walk = walk_of(self.head, self.fed)
            raise TooMany("the stream is whole before these bits end")
        self.fed.extend(bits)

    def many(self):
        return len(self.fed)

    def is_whole(self):
        return self.walk.is_whole()

    def spans(self):
        return self.walk.spans()

    def seen(self):
        return level(self.head, self.spans(), 0)
