"""Points 2 to 6 over the whole program: coded, written, cut at any letter, asked; shared out and cut so."""

import random
import unittest

from helping import (copied, each_thing, holds_each, plainly_read, sheet_within, single, some_cuts, some_ladder,
                     some_picture, some_streams, with_planes)
from liftwave.bitreading import ends
from liftwave.cuts import bounds, enough
from liftwave.lifts import ladder_of
from liftwave.pieces import cone, piece
from liftwave.questions import ask
from liftwave.sharing import share
from liftwave.sheets import opened_spans, thinned
from liftwave.streams import coded, sheet_of
from liftwave.texts import read_text, written


def span_from(words):
    low, points, high = words.partition("..")
    return (int(low), int(high if points else low))


def sheet_from(answer):
    return [[span_from(words) for words in row.split(" ")] for row in answer.split("; ")]


def start_of(text):
    """Where the letters begin."""
    return text.rindex(" ") + 1


def letters_cut(chance, text, many):
    """Texts cut behind some letters, the shortest first: no letter and all among them."""
    start = start_of(text)
    return [text[:start + cut] for cut in some_cuts(chance, text[start:], many)]


def cut_to(text, bits):
    """The text with as many letters as lie whole within so many bits."""
    return text[:start_of(text) + bits // 4]


class WrittenAndAsked(unittest.TestCase):
    def test_from_all_letters_the_picture_just_as_it_was(self):
        for chance, picture, ladder, levels in some_streams(40):
            text = written(*coded(picture, ladder, levels))
            self.assertEqual(sheet_from(ask(text, "all")), [single(row) for row in picture])
            self.assertEqual(ask(text, "broad"), "0")
            self.assertTrue(ask(text, "bits").endswith(" whole"))

    def test_in_more_planes_than_the_least(self):
        for chance, picture, ladder, levels in some_streams(41):
            head = coded(picture, ladder, levels)[0]
            text = written(*with_planes(picture, head, head[3] + chance.randint(1, 9)))
            self.assertEqual(sheet_from(ask(text, "all")), [single(row) for row in picture])

    def test_cut_anywhere_each_cell_lies_in_its_span_and_longer_within_shorter(self):
        for chance, picture, ladder, levels in some_streams(42):
            text = written(*coded(picture, ladder, levels))
            shorter = None
            for some in letters_cut(chance, text, 8):
                sheet = sheet_from(ask(some, "all"))
                self.assertTrue(holds_each(sheet, picture))
                self.assertTrue(shorter is None or sheet_within(sheet, shorter))
                self.assertEqual(ask(some, "broad"), str(max(high - low for low, high in each_thing(sheet))))
                shorter = sheet

    def test_at_every_letter_of_a_small_picture(self):
        chance = random.Random(43)
        for levels in range(4):
            picture = some_picture(chance, 4, 3, 40)
            text = written(*coded(picture, some_ladder(chance, 3), levels))
            shorter = None
            for cut in range(start_of(text), len(text) + 1):
                sheet = sheet_from(ask(text[:cut], "all"))
                self.assertTrue(holds_each(sheet, picture))
                self.assertTrue(shorter is None or sheet_within(sheet, shorter))
                shorter = sheet

    def test_at_and_piece_are_parts_of_all(self):
        for chance, picture, ladder, levels in some_streams(44):
            text = written(*coded(picture, ladder, levels))
            for some in letters_cut(chance, text, 2):
                sheet = sheet_from(ask(some, "all"))
                for turn in range(3):
                    i = chance.randrange(len(sheet))
                    j = chance.randrange(len(sheet[0]))
                    high = chance.randint(1, len(sheet) - i)
                    wide = chance.randint(1, len(sheet[0]) - j)
                    self.assertEqual(sheet_from(ask(some, f"at {i} {j}")), [[sheet[i][j]]])
                    self.assertEqual(sheet_from(ask(some, f"piece {i} {j} {high} {wide}")),
                                     [row[j:j + wide] for row in sheet[i:i + high]])

    def test_level_is_what_all_comes_through(self):
        for chance, picture, ladder, levels in some_streams(45):
            text = written(*coded(picture, ladder, levels))
            for some in letters_cut(chance, text, 2):
                head, bits, whole = read_text(some)
                wave = sheet_of(head, plainly_read(bits, head[0] * head[1], head[3])[0])
                self.assertEqual(ask(some, "level 0"), ask(some, "all"))
                for k in range(levels + 1):
                    down = opened_spans(wave, ladder, levels, k)
                    self.assertEqual(sheet_from(ask(some, f"level {k}")), thinned(down, k))
                    # What is opened on from there is all.
                    self.assertEqual(sheet_from(ask(some, "all")), opened_spans(down, ladder, k))

    def test_a_piece_hangs_on_its_cone_alone(self):
        for chance, picture, ladder, levels in some_streams(46):
            text = written(*coded(picture, ladder, levels))
            for some in letters_cut(chance, text, 1):
                head, bits, whole = read_text(some)
                spans = plainly_read(bits, head[0] * head[1], head[3])[0]
                i = chance.randrange(head[0])
                j = chance.randrange(head[1])
                inside = cone(head, i, j, 1, 1)
                wave = sheet_of(head, range(len(spans)))
                other = [(-9, 99)] * len(spans)
                for row, column in inside:
                    other[wave[row][column]] = spans[wave[row][column]]
                self.assertEqual(piece(head, other, i, j, 1, 1), sheet_from(ask(some, f"at {i} {j}")))


class HowManyBits(unittest.TestCase):
    def test_no_span_is_broader_than_the_last_whole_row_tells(self):
        for chance, picture, ladder, levels in some_streams(47):
            text = written(*coded(picture, ladder, levels))
            for some in letters_cut(chance, text, 4):
                head, bits, whole = read_text(some)
                rows = len(ends(bits, head[0] * head[1], head[3]))
                most = each_thing(bounds(head, head[3] - rows))
                for span, bound in zip(each_thing(sheet_from(ask(some, "all"))), most, strict=True):
                    self.assertLessEqual(span[1] - span[0], bound)

    def test_enough_letters_are_enough(self):
        for chance, picture, ladder, levels in some_streams(48):
            head, bits = coded(picture, ladder, levels)
            text = written(head, bits)
            for breadth in (0, 1, 20, 300):
                many = enough(head, bits, breadth)
                self.assertLessEqual(int(ask(cut_to(text, many + 3), "broad")), breadth)
                if many % 4 == 0 and many > 0:
                    self.assertGreater(int(ask(cut_to(text, many - 4), "broad")), breadth)

    def some_pictures(self, chance):
        for turn in range(20):
            many = chance.randint(1, 5)
            yield [some_picture(chance, chance.randint(1, 5), chance.randint(1, 5), chance.choice((0, 3, 200)))
                   for k in range(many)], some_ladder(chance, chance.randint(0, 4)), chance.randint(0, 4)

    def test_shared_out_cut_so_written_and_asked(self):
        chance = random.Random(49)
        for pictures, ladder, levels in self.some_pictures(chance):
            streams = [coded(picture, ladder, levels) for picture in pictures]
            total = chance.randint(0, sum(len(bits) for head, bits in streams) + 2)
            least, numbers = share(streams, total)
            broadest = []
            for (head, bits), many, picture in zip(streams, numbers, pictures, strict=True):
                # The letters that hold these bits may hold up to three more, which can only help.
                text = cut_to(written(head, bits), many + 3)
                sheet = sheet_from(ask(text, "all"))
                self.assertTrue(holds_each(sheet, picture))
                broadest.append(max(high - low for low, high in each_thing(sheet)))
                self.assertEqual(ask(text, "broad"), str(broadest[-1]))
            self.assertLessEqual(max(broadest), least)
            self.assertLessEqual(sum(numbers), total)

    def test_all_shared_out_is_all_told(self):
        chance = random.Random(50)
        for pictures, ladder, levels in self.some_pictures(chance):
            streams = [coded(picture, ladder, levels) for picture in pictures]
            least, numbers = share(streams, sum(len(bits) for head, bits in streams))
            self.assertEqual(least, 0)
            for (head, bits), many, picture in zip(streams, numbers, pictures, strict=True):
                text = cut_to(written(head, bits), many + 3)
                self.assertEqual(sheet_from(ask(text, "all")), [single(row) for row in picture])


class Untouched(unittest.TestCase):
    def test_what_is_handed_in_stays_as_it_is(self):
        picture = [[10, 20, 40], [12, 22, 43]]
        before = copied(picture)
        stream = coded(picture, ladder_of("long"), 3)
        text = written(*stream)
        share([stream, stream], 30)
        for row in ("size", "bits", "broad", "at 1 2", "level 1", "piece 0 1 2 2", "all"):
            ask(text, row)
        self.assertEqual(picture, before)
        picture[0][0] = 99
        self.assertEqual(coded(before, ladder_of("long"), 3), stream)
        self.assertEqual(ask(text, "all"), "10 20 40; 12 22 43")


if __name__ == "__main__":
    unittest.main()
