"""Points 2, 5, 23 and 24: levels and pieces of a picture, read alone."""

import random
import unittest

from helping import NAMES, UTMOST, each_thing, single, some_cuts, some_ladder, some_picture, some_span, some_streams
from liftwave.bitreading import read
from liftwave.errors import NoLevel, NoPiece
from liftwave.lattice import level_of, places
from liftwave.lifts import ladder_of
from liftwave.lowering import needs
from liftwave.pieces import cone, level, piece
from liftwave.sheets import laid, opened_spans, thinned
from liftwave.streams import coded, sheet_of

LINE = ladder_of("line")


def spans_of(head, bits):
    return read(bits, head[0] * head[1], head[3])[0]


def all_read(head, spans):
    return opened_spans(sheet_of(head, spans), head[4], head[2])


def some_piece(chance, head):
    top = chance.randint(0, head[0] - 1)
    left = chance.randint(0, head[1] - 1)
    return (top, left, chance.randint(1, head[0] - top), chance.randint(1, head[1] - left))


def each_piece(chance, head):
    """One place at each corner, all, and some."""
    for top in {0, head[0] - 1}:
        for left in {0, head[1] - 1}:
            yield (top, left, 1, 1)
    yield (0, 0, head[0], head[1])
    for turn in range(4):
        yield some_piece(chance, head)


def cut_out(sheet, asked):
    top, left, high, wide = asked
    return [[sheet[i][j] for j in range(left, left + wide)] for i in range(top, top + high)]


def cone_by_looking(head, asked):
    high, wide, levels, planes, ladder = head
    rows = list(range(asked[0], asked[0] + asked[2]))
    columns = list(range(asked[1], asked[1] + asked[3]))
    found = set()
    for k in range(levels):
        rows = needs(rows, ladder, high, 2 ** k)[-1]
        columns = needs(columns, ladder, wide, 2 ** k)[-1]
        found |= {(i, j) for i in rows for j in columns if i % 2 ** (k + 1) or j % 2 ** (k + 1)}
        rows = [i for i in rows if i % 2 ** (k + 1) == 0]
        columns = [j for j in columns if j % 2 ** (k + 1) == 0]
    found |= {(i, j) for i in rows for j in columns}
    return sorted(found, key=lambda place: (-level_of(place[0], place[1], levels), place))


class Levels(unittest.TestCase):
    def test_by_hand(self):
        picture = [[1, 3, 7, 15, 31]]
        head, bits = coded(picture, ((1, -1, 0, 0, 0),), 2)
        spans = spans_of(head, bits)
        self.assertEqual(level(head, spans, 0), [single([1, 3, 7, 15, 31])])
        self.assertEqual(level(head, spans, 1), [single([1, 7, 31])])
        self.assertEqual(level(head, spans, 2), [single([1, 31])])

    def test_opened_down_and_thinned_from_any_beginning(self):
        for chance, picture, ladder, levels in some_streams(230):
            head, bits = coded(picture, ladder, levels)
            for cut in some_cuts(chance, bits, 2):
                spans = spans_of(head, bits[:cut])
                kept = list(spans)
                for k in range(levels + 1):
                    with self.subTest(picture=picture, ladder=ladder, levels=levels, cut=cut, k=k):
                        self.assertEqual(level(head, spans, k),
                                         thinned(opened_spans(sheet_of(head, spans), ladder, levels, k), k))
                        self.assertEqual(spans, kept)
                self.assertEqual(level(head, spans, 0), all_read(head, spans))

    def test_from_all_bits_it_is_what_is_laid_by_the_levels_below(self):
        for chance, picture, ladder, levels in some_streams(231):
            head, bits = coded(picture, ladder, levels)
            for k in range(levels + 1):
                asked = [single(row) for row in thinned(laid(picture, ladder, k), k)]
                self.assertEqual(level(head, spans_of(head, bits), k), asked)

    def test_no_level(self):
        for levels in range(7):
            head = (3, 4, levels, 5, LINE)
            spans = [(-31, 31)] * 12
            for k in (-1, levels + 1, -2, 7, 64, UTMOST, -UTMOST):
                if not 0 <= k <= levels:
                    with self.subTest(levels=levels, k=k):
                        with self.assertRaises(NoLevel):
                            level(head, spans, k)
            self.assertEqual(len(level(head, spans, levels)), len(thinned([[0]] * 3, levels)))


class Cones(unittest.TestCase):
    def test_still_needs_the_places_themselves(self):
        self.assertEqual(cone((4, 4, 2, 0, ()), 1, 2, 1, 1), [(1, 2)])
        self.assertEqual(cone((4, 4, 2, 0, ()), 0, 0, 2, 2), [(0, 0), (0, 1), (1, 0), (1, 1)])
        self.assertEqual(cone((5, 5, 2, 0, ()), 2, 3, 3, 2), [(4, 4), (2, 4), (2, 3), (3, 3), (3, 4), (4, 3)])

    def test_no_levels_need_the_places_themselves(self):
        self.assertEqual(cone((5, 5, 0, 0, LINE), 2, 3, 2, 2), [(2, 3), (2, 4), (3, 3), (3, 4)])

    def test_by_hand(self):
        # In a row of eight, place 3 needs 1 to 5 of level 0; of these 2 and 4 are wanted of level 1, and need 0 to 6.
        self.assertEqual(cone((1, 8, 1, 0, LINE), 0, 3, 1, 1), [(0, 2), (0, 4), (0, 1), (0, 3), (0, 5)])
        self.assertEqual(cone((1, 8, 2, 0, LINE), 0, 3, 1, 1),
                         [(0, 0), (0, 4), (0, 2), (0, 6), (0, 1), (0, 3), (0, 5)])
        self.assertEqual(cone((8, 1, 1, 0, LINE), 3, 0, 1, 1), [(2, 0), (4, 0), (1, 0), (3, 0), (5, 0)])
        self.assertEqual(cone((2, 2, 1, 0, LINE), 0, 0, 1, 1), [(0, 0), (0, 1), (1, 0), (1, 1)])

    def test_by_the_definition(self):
        for chance, picture, ladder, levels in some_streams(240):
            head = (len(picture), len(picture[0]), levels, 9, ladder)
            for asked in each_piece(chance, head):
                with self.subTest(head=head, asked=asked):
                    self.assertEqual(cone(head, *asked), cone_by_looking(head, asked))

    def test_64_by_64(self):
        chance = random.Random(241)
        for ladder in [ladder_of(name) for name in NAMES] + [some_ladder(chance, 6)]:
            for levels in (0, 1, 3, 6):
                head = (64, 64, levels, 9, ladder)
                for asked in ((0, 0, 1, 1), (63, 63, 1, 1), (31, 32, 3, 2), (0, 0, 64, 64)):
                    self.assertEqual(cone(head, *asked), cone_by_looking(head, asked))

    def test_all_of_the_picture_needs_all_places(self):
        for levels in range(7):
            for name in NAMES:
                head = (7, 10, levels, 9, ladder_of(name))
                self.assertEqual(cone(head, 0, 0, 7, 10), places(7, 10, levels))

    def test_in_the_order_of_places_each_once(self):
        for chance, picture, ladder, levels in some_streams(242):
            head = (len(picture), len(picture[0]), levels, 9, ladder)
            told = cone(head, *some_piece(chance, head))
            self.assertEqual(told, [place for place in places(head[0], head[1], levels) if place in told])
            self.assertEqual([type(place) for place in told], [tuple] * len(told))

    def test_the_list_is_the_askers_own(self):
        head = (4, 4, 2, 9, LINE)
        told = cone(head, 1, 1, 2, 2)
        kept = list(told)
        told.append(None)
        told[0] = None
        self.assertEqual(cone(head, 1, 1, 2, 2), kept)


class Pieces(unittest.TestCase):
    def test_by_hand(self):
        head, bits = coded([[1, 2, 3], [4, 5, 6], [7, 8, 9]])
        spans = spans_of(head, bits)
        self.assertEqual(piece(head, spans, 0, 0, 1, 1), [[(1, 1)]])
        self.assertEqual(piece(head, spans, 1, 2, 1, 1), [[(6, 6)]])
        self.assertEqual(piece(head, spans, 1, 0, 2, 2), [single([4, 5]), single([7, 8])])
        self.assertEqual(piece(head, spans, 2, 0, 1, 3), [single([7, 8, 9])])
        self.assertEqual(piece(head, spans, 0, 2, 3, 1), [[(3, 3)], [(6, 6)], [(9, 9)]])

    def test_just_what_stands_there_when_all_is_read(self):
        for chance, picture, ladder, levels in some_streams(243):
            head, bits = coded(picture, ladder, levels)
            for cut in some_cuts(chance, bits, 2):
                spans = spans_of(head, bits[:cut])
                kept = list(spans)
                sheet = all_read(head, spans)
                for asked in each_piece(chance, head):
                    with self.subTest(picture=picture, ladder=ladder, levels=levels, cut=cut, asked=asked):
                        self.assertEqual(piece(head, spans, *asked), cut_out(sheet, asked))
                        self.assertEqual(spans, kept)

    def test_other_spans_outside_the_cone_change_nothing(self):
        for chance, picture, ladder, levels in some_streams(244):
            head, bits = coded(picture, ladder, levels)
            spans = spans_of(head, bits[:chance.randint(0, len(bits))])
            for asked in each_piece(chance, head):
                inside = cone(head, *asked)
                order = places(head[0], head[1], levels)
                other = [span if place in inside else some_span(chance, 10 ** 9) for place, span in zip(order, spans)]
                self.assertEqual(piece(head, other, *asked), piece(head, spans, *asked))
                # The whole sheet, opened, does not hang on them there either.
                self.assertEqual(cut_out(all_read(head, other), asked), piece(head, spans, *asked))

    def test_spans_in_the_cone_may_count(self):
        head, bits = coded([[5, 1, 7, 2, 9]], LINE, 1)
        spans = spans_of(head, bits)
        for at, place in enumerate(places(1, 5, 1)):
            if place in cone(head, 0, 3, 1, 1):
                other = list(spans)
                other[at] = (-1000, 1000)
                self.assertNotEqual(piece(head, other, 0, 3, 1, 1), piece(head, spans, 0, 3, 1, 1))

    def test_64_by_64(self):
        chance = random.Random(245)
        picture = some_picture(chance, 64, 64, 255)
        head, bits = coded(picture, ladder_of("long"), 6)
        for spans in (spans_of(head, bits), spans_of(head, bits[:9000])):
            sheet = all_read(head, spans)
            for asked in ((0, 0, 64, 64), (63, 63, 1, 1), (17, 40, 8, 9)):
                self.assertEqual(piece(head, spans, *asked), cut_out(sheet, asked))

    def test_the_sheet_is_the_askers_own(self):
        head, bits = coded([[1, 2, 3], [4, 5, 6]])
        spans = spans_of(head, bits)
        for doing in (lambda: piece(head, spans, 0, 0, 2, 2), lambda: level(head, spans, 0)):
            told = doing()
            kept = [list(row) for row in told]
            for row in told:
                row[0] = None
                row.append(None)
            told.append(None)
            self.assertEqual(doing(), kept)
            self.assertNotIn(None, each_thing(doing()))


class NoPieces(unittest.TestCase):
    def refused(self, head, asked):
        with self.subTest(head=head, asked=asked):
            with self.assertRaises(NoPiece):
                cone(head, *asked)
            with self.assertRaises(NoPiece):
                piece(head, [(0, 0)] * (head[0] * head[1]), *asked)

    def test_parts_below_their_least(self):
        for head in ((3, 4, 2, 0, LINE), (1, 1, 0, 0, ()), (64, 64, 6, 0, LINE)):
            for asked in ((-1, 0, 1, 1), (0, -1, 1, 1), (0, 0, 0, 1), (0, 0, 1, 0), (0, 0, -1, 1), (0, 0, 1, -1),
                          (0, 0, 0, 0), (-1, -1, 1, 1), (-1, 0, 2, 1), (0, -1, 1, 2), (-UTMOST, 0, 1, 1),
                          (0, -UTMOST, 1, 1), (0, 0, -UTMOST, 1), (0, 0, 1, -UTMOST), (1, 0, 0, 1), (0, 1, 1, 0)):
                self.refused(head, asked)

    def test_beyond_the_picture_by_one_and_by_far(self):
        for high, wide in ((3, 4), (1, 1), (1, 9), (64, 64)):
            head = (high, wide, 2, 0, LINE)
            for asked in ((high, 0, 1, 1), (0, wide, 1, 1), (0, 0, high + 1, 1), (0, 0, 1, wide + 1),
                          (high - 1, 0, 2, 1), (0, wide - 1, 1, 2), (UTMOST, 0, 1, 1), (0, UTMOST, 1, 1),
                          (0, 0, UTMOST, 1), (0, 0, 1, UTMOST), (UTMOST, UTMOST, UTMOST, UTMOST),
                          (-1, 0, high + 1, 1), (0, -1, 1, wide + 1), (high, wide, 0, 0), (high + 1, 0, -1, 1)):
                self.refused(head, asked)

    def test_up_to_the_edge_is_in_the_picture(self):
        for high, wide in ((3, 4), (1, 1), (1, 9), (64, 64)):
            head = (high, wide, 0, 0, LINE)
            for asked in ((0, 0, high, wide), (high - 1, wide - 1, 1, 1), (0, wide - 1, high, 1),
                          (high - 1, 0, 1, wide)):
                told = piece(head, [(0, 0)] * (high * wide), *asked)
                self.assertEqual(told, [[(0, 0)] * asked[3]] * asked[2])


if __name__ == "__main__":
    unittest.main()
