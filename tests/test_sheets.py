"""Points 2, 3, 14, 15 and 16: pictures, waves and sheets."""

import random
import unittest

from helping import (GREAT, NAMES, UTMOST, copied, each_thing, sheet_within, single, some_ladder, some_picture,
                     some_span, some_within)
from liftwave.lifts import ladder_of, lowered, raised
from liftwave.lowering import lowered_breadths, lowered_spans
from liftwave.sheets import is_picture, laid, opened, opened_breadths, opened_spans, thinned

SIZES = ((1, 1), (1, 2), (2, 1), (1, 7), (7, 1), (2, 2), (3, 5), (8, 8), (6, 13), (17, 9), (33, 31))
NO_NUMBERS = (True, False, None, "1", "", 1.0, (1,), [1], {}, b"1", object())


def changed_rows(sheet, doing, ladder, stride):
    return [doing(row, ladder, stride) if i % stride == 0 else list(row) for i, row in enumerate(sheet)]


def turned(sheet):
    return [list(column) for column in zip(*sheet)]


def changed_columns(sheet, doing, ladder, stride):
    return turned(changed_rows(turned(sheet), doing, ladder, stride))


def laid_by_looking(sheet, ladder, levels):
    for k in range(levels):
        sheet = changed_columns(changed_rows(sheet, raised, ladder, 2 ** k), raised, ladder, 2 ** k)
    return sheet


def opened_by_looking(sheet, doing, ladder, levels, down):
    for k in range(levels - 1, down - 1, -1):
        sheet = changed_rows(changed_columns(sheet, doing, ladder, 2 ** k), doing, ladder, 2 ** k)
    return sheet


def each_case(seed):
    chance = random.Random(seed)
    for high, wide in SIZES:
        for levels in range(7):
            for ladder in [ladder_of(name) for name in NAMES] + [some_ladder(chance, chance.randint(1, 6))]:
                yield chance, high, wide, ladder, levels
    for levels in (0, 1, 6):
        yield chance, 64, 64, ladder_of("line"), levels
        yield chance, 64, 1, ladder_of("long"), levels
        yield chance, 1, 64, some_ladder(chance, 6), levels


class IsPicture(unittest.TestCase):
    def test_of_1_to_64_rows_and_cells(self):
        for high in (1, 2, 63, 64):
            for wide in (1, 2, 63, 64):
                self.assertIs(is_picture([[0] * wide for i in range(high)]), True)

    def test_numbers_of_any_size(self):
        self.assertIs(is_picture([[0, -1], [UTMOST, -UTMOST]]), True)

    def test_of_0_and_of_65(self):
        for high, wide in ((0, 1), (1, 0), (65, 1), (1, 65), (65, 65), (64, 0), (64, 65), (65, 64), (2, 0)):
            with self.subTest(high=high, wide=wide):
                self.assertIs(is_picture([[0] * wide for i in range(high)]), False)

    def test_rows_of_unlike_lengths(self):
        for picture in ([[1], [1, 2]], [[1, 2], [1]], [[1, 2], [1, 2], []], [[], [1]], [[1, 2], [3, 4], [5, 6, 7]]):
            with self.subTest(picture=picture):
                self.assertIs(is_picture(picture), False)

    def test_other_things_as_a_number(self):
        for thing in NO_NUMBERS:
            with self.subTest(thing=thing):
                self.assertIs(is_picture([[thing]]), False)
                self.assertIs(is_picture([[1, 2], [3, thing]]), False)
                self.assertIs(is_picture([[thing, 2], [3, 4]]), False)

    def test_other_things_as_a_row(self):
        for thing in (True, None, 1, 0, "12", "", (1, 2), {0: 1, 1: 2}, {1, 2}, range(2), b"12", iter([1, 2]),
                      object()):
            with self.subTest(thing=thing):
                self.assertIs(is_picture([thing]), False)
                self.assertIs(is_picture([thing, [1, 2]]), False)
                self.assertIs(is_picture([[1, 2], thing]), False)

    def test_other_things_as_the_whole(self):
        for thing in (True, False, None, 0, 1, -1, 1.5, "", "1", "picture", (), (1,), ([1],), ((1,),), {}, {0: [1]},
                      set(), b"", range(1), iter([[1]]), object(), list, len):
            with self.subTest(thing=thing):
                self.assertIs(is_picture(thing), False)


class ByHand(unittest.TestCase):
    def test_no_levels(self):
        self.assertEqual(laid([[1, 2], [3, 4]], ladder_of("line"), 0), [[1, 2], [3, 4]])
        self.assertEqual(opened([[1, 2], [3, 4]], ladder_of("line"), 0), [[1, 2], [3, 4]])

    def test_rows_first_then_columns(self):
        self.assertEqual(laid([[1, 2], [4, 8]], ladder_of("pair"), 1), [[3, 2], [5, 3]])
        self.assertEqual(opened([[3, 2], [5, 3]], ladder_of("pair"), 1), [[1, 2], [4, 8]])
        # In whole numbers the turns are not the same: columns first would give another wave.
        ladder = ((1, 1, 0, 1, 1), (0, 1, 0, 0, 1))
        picture = [[1, 2], [4, 7]]
        self.assertEqual(laid(picture, ladder, 1),
                         changed_columns(changed_rows(picture, raised, ladder, 1), raised, ladder, 1))
        self.assertNotEqual(laid(picture, ladder, 1),
                            changed_rows(changed_columns(picture, raised, ladder, 1), raised, ladder, 1))

    def test_the_next_level_takes_every_second_thing(self):
        odd = ((1, -1, 0, 0, 0),)
        self.assertEqual(laid([[1, 3, 7, 15, 31]], odd, 1), [[1, 2, 7, 8, 31]])
        self.assertEqual(laid([[1, 3, 7, 15, 31]], odd, 2), [[1, 2, 6, 8, 31]])
        self.assertEqual(laid([[1, 3, 7, 15, 31]], odd, 3), [[1, 2, 6, 8, 30]])
        self.assertEqual(laid([[1], [3], [7], [15], [31]], odd, 3), [[1], [2], [6], [8], [30]])

    def test_rows_that_the_stride_does_not_divide_stay(self):
        odd = ((1, 0, 0, 1, 0),)
        self.assertEqual(laid([[0] * 3] * 3, odd, 2), [[0, 1, 1], [1, 2, 1], [1, 1, 2]])

    def test_one_cell(self):
        for levels in range(7):
            self.assertEqual(laid([[5]], ladder_of("long"), levels), [[5]])
            self.assertEqual(opened([[5]], ladder_of("long"), levels), [[5]])

    def test_spans_and_breadths(self):
        pair = ladder_of("pair")
        self.assertEqual(opened_spans([[(3, 3), (2, 2)], [(5, 5), (3, 3)]], pair, 1),
                         [[(1, 1), (2, 2)], [(4, 4), (8, 8)]])
        self.assertEqual(opened_spans([[(0, 1), (2, 3)]], pair, 1), [[(-1, 0), (1, 3)]])
        self.assertEqual(opened_breadths([[1, 1]], pair, 1), [[2, 3]])
        self.assertEqual(opened_breadths([[1, 1], [1, 1]], pair, 1), [[3, 5], [5, 8]])


class ByTheDefinition(unittest.TestCase):
    def test_laid_and_opened(self):
        for chance, high, wide, ladder, levels in each_case(140):
            with self.subTest(high=high, wide=wide, ladder=ladder, levels=levels):
                picture = some_picture(chance, high, wide, chance.choice((9, 255, GREAT)))
                kept = copied(picture)
                wave = laid(picture, ladder, levels)
                self.assertEqual(wave, laid_by_looking(picture, ladder, levels))
                self.assertEqual(opened(wave, ladder, levels), picture)
                self.assertEqual(opened(picture, ladder, levels),
                                 opened_by_looking(picture, lowered, ladder, levels, 0))
                self.assertEqual(laid(opened(picture, ladder, levels), ladder, levels), picture)
                self.assertEqual(picture, kept)

    def test_opened_down_to_a_level_is_laid_by_as_many_levels(self):
        for chance, high, wide, ladder, levels in each_case(141):
            picture = some_picture(chance, high, wide, 255)
            wave = laid(picture, ladder, levels)
            for down in range(levels + 1):
                with self.subTest(high=high, wide=wide, ladder=ladder, levels=levels, down=down):
                    self.assertEqual(opened(wave, ladder, levels, down), laid(picture, ladder, down))

    def test_opened_down_keeps_the_wave_handed_in(self):
        wave = [[1, 2, 3], [4, 5, 6], [7, 8, 9]]
        for levels in range(4):
            for down in range(levels + 1):
                opened(wave, ladder_of("long"), levels, down)
                self.assertEqual(wave, [[1, 2, 3], [4, 5, 6], [7, 8, 9]])

    def test_spans_down_to_each_level(self):
        for chance, high, wide, ladder, levels in each_case(142):
            most = chance.choice((9, GREAT))
            sheet = [[some_span(chance, most) for j in range(wide)] for i in range(high)]
            kept = copied(sheet)
            for down in {0, levels, chance.randint(0, levels)}:
                with self.subTest(high=high, wide=wide, ladder=ladder, levels=levels, down=down):
                    told = opened_spans(sheet, ladder, levels, down)
                    self.assertEqual(told, opened_by_looking(sheet, lowered_spans, ladder, levels, down))
                    numbers = [[chance.randint(low, high) for low, high in row] for row in sheet]
                    lowered_numbers = each_thing(opened(numbers, ladder, levels, down))
                    for number, span in zip(lowered_numbers, each_thing(told), strict=True):
                        self.assertTrue(span[0] <= number <= span[1])
                    self.assertEqual(sheet, kept)

    def test_spans_of_one_number(self):
        for chance, high, wide, ladder, levels in each_case(143):
            picture = some_picture(chance, high, wide, 255)
            wave = [single(row) for row in laid(picture, ladder, levels)]
            self.assertEqual(opened_spans(wave, ladder, levels), [single(row) for row in picture])

    def test_spans_within_spans(self):
        for chance, high, wide, ladder, levels in each_case(144):
            sheet = [[some_span(chance, 99) for j in range(wide)] for i in range(high)]
            inner = [[some_within(chance, span) for span in row] for row in sheet]
            self.assertTrue(sheet_within(opened_spans(inner, ladder, levels), opened_spans(sheet, ladder, levels)))

    def test_breadths_down_to_each_level(self):
        for chance, high, wide, ladder, levels in each_case(145):
            picture = some_picture(chance, high, wide, chance.choice((9, GREAT)))
            sheet = [[abs(number) for number in row] for row in picture]
            kept = copied(sheet)
            spans = [[(low, low + breadth) for low, breadth in zip(row, row[::-1])] for row in sheet]
            turned_round = [row[::-1] for row in sheet]
            for down in {0, levels, chance.randint(0, levels)}:
                with self.subTest(high=high, wide=wide, ladder=ladder, levels=levels, down=down):
                    self.assertEqual(opened_breadths(sheet, ladder, levels, down),
                                     opened_by_looking(sheet, lowered_breadths, ladder, levels, down))
                    self.assertEqual(sheet, kept)
                    bounds = each_thing(opened_breadths(turned_round, ladder, levels, down))
                    told = each_thing(opened_spans(spans, ladder, levels, down))
                    for span, most in zip(told, bounds, strict=True):
                        self.assertLessEqual(span[1] - span[0], most)

    def test_down_left_out_is_0(self):
        spans = [[(1, 2), (3, 4), (5, 6)]]
        line = ladder_of("line")
        self.assertEqual(opened([[1, 2, 3]], line, 2), opened([[1, 2, 3]], line, 2, 0))
        self.assertEqual(opened_spans(spans, line, 2), opened_spans(spans, line, 2, 0))
        self.assertEqual(opened_breadths([[1, 2, 3]], line, 2), opened_breadths([[1, 2, 3]], line, 2, 0))
        self.assertNotEqual(opened([[1, 2, 3]], line, 2), opened([[1, 2, 3]], line, 2, 1))
        self.assertEqual(opened([[1, 2, 3]], line, 2, down=1), opened([[1, 2, 3]], line, 2, 1))
        self.assertEqual(opened_spans(spans, line, 2, down=1), opened_spans(spans, line, 2, 1))
        self.assertEqual(opened_breadths([[1, 2, 3]], line, 2, down=1), opened_breadths([[1, 2, 3]], line, 2, 1))

    def test_numbers_of_three_hundred_figures(self):
        chance = random.Random(146)
        picture = some_picture(chance, 5, 6, UTMOST)
        ladder = some_ladder(chance, 6)
        wave = laid(picture, ladder, 6)
        self.assertEqual(wave, laid_by_looking(picture, ladder, 6))
        self.assertEqual(opened(wave, ladder, 6), picture)


class Thinned(unittest.TestCase):
    def test_by_0_to_6(self):
        for high, wide in SIZES + ((64, 64), (64, 1), (65, 65)):
            sheet = [[(i, j) for j in range(wide)] for i in range(high)]
            for k in range(7):
                with self.subTest(high=high, wide=wide, k=k):
                    told = thinned(sheet, k)
                    self.assertEqual(each_thing(told),
                                     [(i, j) for i, j in each_thing(sheet) if i % 2 ** k == 0 and j % 2 ** k == 0])
                    self.assertEqual(len(told), (high - 1) // 2 ** k + 1)
                    self.assertEqual([len(row) for row in told], [(wide - 1) // 2 ** k + 1] * len(told))

    def test_by_hand(self):
        sheet = [[1, 2, 3], [4, 5, 6], [7, 8, 9]]
        self.assertEqual(thinned(sheet, 0), sheet)
        self.assertEqual(thinned(sheet, 1), [[1, 3], [7, 9]])
        self.assertEqual(thinned(sheet, 2), [[1]])
        self.assertEqual(thinned(sheet, 6), [[1]])
        self.assertEqual(sheet, [[1, 2, 3], [4, 5, 6], [7, 8, 9]])

    def test_a_wave_opened_down_and_thinned(self):
        chance = random.Random(150)
        picture = some_picture(chance, 13, 21, 255)
        for name in NAMES:
            wave = laid(picture, ladder_of(name), 4)
            for k in range(5):
                self.assertEqual(thinned(opened(wave, ladder_of(name), 4, k), k),
                                 thinned(laid(picture, ladder_of(name), k), k))


class NothingIsChangedOrKept(unittest.TestCase):
    def each_doing(self):
        spans = [[(i, i + j) for j in range(4)] for i in range(5)]
        numbers = [[i * 7 + j for j in range(4)] for i in range(5)]
        for name in NAMES:
            for levels in (0, 1, 2, 3):
                ladder = ladder_of(name)
                yield numbers, lambda sheet: laid(sheet, ladder, levels)
                for down in range(levels + 1):
                    yield numbers, lambda sheet: opened(sheet, ladder, levels, down)
                    yield numbers, lambda sheet: opened_breadths(sheet, ladder, levels, down)
                    yield spans, lambda sheet: opened_spans(sheet, ladder, levels, down)
        for k in range(4):
            yield numbers, lambda sheet: thinned(sheet, k)

    def test_a_told_sheet_that_is_changed_changes_nothing_else(self):
        for sheet, doing in self.each_doing():
            handed = copied(sheet)
            first = doing(handed)
            kept = copied(first)
            for row in first:
                row[0] = None
                row.append(None)
            first.append(None)
            self.assertEqual(handed, sheet)
            second = doing(handed)
            self.assertEqual(second, kept)
            for row in handed:
                row[0] = None
            handed.append(None)
            self.assertEqual(second, kept)

    def test_one_list_handed_in_as_several_rows_is_told_as_several(self):
        row = [1, 2, 3]
        for told in (laid([row, row], (), 2), opened([row, row], (), 2), opened_breadths([row, row], (), 0),
                     opened_spans([row, row], (), 0), thinned([row, row], 0)):
            self.assertEqual(told, [[1, 2, 3], [1, 2, 3]])
            told[0][0] = 99
            self.assertEqual(told[1], [1, 2, 3])
        self.assertEqual(row, [1, 2, 3])

    def test_is_picture_changes_nothing(self):
        picture = [[1, 2], [3, 4]]
        is_picture(picture)
        self.assertEqual(picture, [[1, 2], [3, 4]])


if __name__ == "__main__":
    unittest.main()
