"""Points 2 and 21: heads, and pictures coded as streams."""

import random
import unittest

from helping import NAMES, UTMOST, copied, plainly_told, some_ladder, some_picture, some_streams
from liftwave.errors import NoLadder, NoLevel, NoPicture
from liftwave.lattice import places
from liftwave.lifts import ladder_of
from liftwave.sheets import laid
from liftwave.streams import coded, is_head, sheet_of

LINE = ladder_of("line")
HEAD = (3, 4, 2, 9, LINE)
RANGES = ((1, 64), (1, 64), (0, 6), (0, 4000))
NO_LADDERS = ([], [(1, 0, 0, 0, 0)], "line", "", 0, 1, True, False, {}, (1,), ((1, 0, 0, 0),), ((2, 0, 0, 0, 0),),
              ((0, 0, 0, 0, 0),) * 7, ((True, 0, 0, 0, 0),), 1.5, object())
NO_LEVELS = (-1, 7, 10 ** 60, -(10 ** 60), 10 ** 5000, True, False, None, "", "2", 2.0, (2,), [2], {}, object())
NO_PICTURES = (None, True, 0, "", "picture", [], [[]], [[1], []], [[1], [1, 2]], ((1,),), [(1,)], [[True]], [[None]],
               [["1"]], [[1.0]], [[0] * 65], [[0]] * 65, {}, object())


def with_part(at, part):
    return HEAD[:at] + (part,) + HEAD[at + 1:]


class IsHead(unittest.TestCase):
    def test_both_ends_of_each_range_and_one_beyond(self):
        for at, (low, high) in enumerate(RANGES):
            with self.subTest(at=at):
                self.assertIs(is_head(with_part(at, low)), True)
                self.assertIs(is_head(with_part(at, high)), True)
                self.assertIs(is_head(with_part(at, (low + high) // 2)), True)
                self.assertIs(is_head(with_part(at, low - 1)), False)
                self.assertIs(is_head(with_part(at, high + 1)), False)
                self.assertIs(is_head(with_part(at, UTMOST)), False)
                self.assertIs(is_head(with_part(at, -UTMOST)), False)

    def test_all_parts_at_their_ends_together(self):
        self.assertIs(is_head((1, 1, 0, 0, ())), True)
        self.assertIs(is_head((64, 64, 6, 4000, ((1, 8, 8, 64, 8),) * 6)), True)

    def test_four_and_six_parts_and_others(self):
        for head in ((), HEAD[:1], HEAD[:4], HEAD[1:], HEAD + (0,), HEAD + (LINE,), HEAD + HEAD):
            with self.subTest(head=head):
                self.assertIs(is_head(head), False)

    def test_parts_that_are_no_whole_numbers(self):
        for at in range(4):
            for part in (True, False, None, "", "1", 1.0, (1,), [1], {}, b"1", LINE, object()):
                with self.subTest(at=at, part=part):
                    self.assertIs(is_head(with_part(at, part)), False)

    def test_ladders(self):
        for name in NAMES:
            self.assertIs(is_head(with_part(4, ladder_of(name))), True)
        for thing in NO_LADDERS + (None,):
            with self.subTest(thing=thing):
                self.assertIs(is_head(with_part(4, thing)), False)

    def test_a_list_in_the_place_of_a_tuple(self):
        self.assertIs(is_head(list(HEAD)), False)
        self.assertIs(is_head(with_part(4, list(LINE))), False)
        self.assertIs(is_head(with_part(4, ([1, 0, 0, 0, 0],))), False)

    def test_things_of_any_other_kind(self):
        for thing in (None, True, False, 0, 5, "", "12345", b"12345", 1.5, {}, dict(enumerate(HEAD)), set(), HEAD[:4],
                      LINE, range(5), iter(HEAD), object(), tuple, len):
            with self.subTest(thing=thing):
                self.assertIs(is_head(thing), False)


class ByHand(unittest.TestCase):
    def test_one_cell(self):
        for levels in range(7):
            self.assertEqual(coded([[5]], LINE, levels), ((1, 1, levels, 3, LINE), "1001"))
            self.assertEqual(coded([[-5]], LINE, levels), ((1, 1, levels, 3, LINE), "1101"))

    def test_all_0(self):
        # Pair and still raise 0 to 0, so no planes are there, and no bits.
        for name in ("still", "pair"):
            for high, wide in ((1, 1), (1, 64), (64, 1), (5, 7)):
                picture = [[0] * wide for i in range(high)]
                self.assertEqual(coded(picture, ladder_of(name), 3), ((high, wide, 3, 0, ladder_of(name)), ""))

    def test_the_order_of_places(self):
        # Over one level the things at (0, 0) and (0, 2) come first, then those at (0, 1) and (0, 3).
        self.assertEqual(coded([[0, 1, 0, 0]], (), 0)[1], plainly_told([0, 1, 0, 0], 1))
        self.assertEqual(coded([[0, 1, 0, 0]], (), 1)[1], plainly_told([0, 0, 1, 0], 1))
        self.assertEqual(coded([[0, 0, 1, 0]], (), 1)[1], plainly_told([0, 1, 0, 0], 1))
        self.assertEqual(coded([[1, 0], [0, 0]], (), 1)[1], plainly_told([1, 0, 0, 0], 1))
        self.assertEqual(coded([[0, 0], [-1, 0]], (), 1)[1], "10110")

    def test_written_out(self):
        self.assertEqual(coded([[1, 2], [4, 8]], ladder_of("pair"), 1),
                         ((2, 2, 1, 3, ladder_of("pair")), plainly_told([3, 2, 5, 3], 3)))


class Coded(unittest.TestCase):
    def test_the_wave_in_the_order_of_places_in_the_least_planes(self):
        for chance, picture, ladder, levels in some_streams(210):
            with self.subTest(picture=picture, ladder=ladder, levels=levels):
                kept = copied(picture)
                head, bits = coded(picture, ladder, levels)
                wave = laid(picture, ladder, levels)
                numbers = [wave[i][j] for i, j in places(len(picture), len(picture[0]), levels)]
                planes = 0
                while any(abs(number) >= 2 ** planes for number in numbers):
                    planes += 1
                self.assertEqual(head, (len(picture), len(picture[0]), levels, planes, ladder))
                self.assertEqual(bits, plainly_told(numbers, planes))
                self.assertIs(is_head(head), True)
                self.assertEqual(picture, kept)

    def test_64_by_64(self):
        chance = random.Random(211)
        picture = some_picture(chance, 64, 64, 255)
        for name, levels in (("line", 2), ("long", 6), ("still", 0)):
            head, bits = coded(picture, ladder_of(name), levels)
            wave = laid(picture, ladder_of(name), levels)
            numbers = [wave[i][j] for i, j in places(64, 64, levels)]
            self.assertEqual(bits, plainly_told(numbers, head[3]))

    def test_ladder_and_levels_left_out(self):
        picture = [[9, 8, 7], [1, 2, 3], [4, 4, 4]]
        self.assertEqual(coded(picture), coded(picture, LINE, 2))
        self.assertEqual(coded(picture, None), coded(picture, LINE, 2))
        self.assertEqual(coded(picture, None, 5), coded(picture, LINE, 5))
        self.assertEqual(coded(picture, levels=0), coded(picture, LINE, 0))
        self.assertEqual(coded(picture, ladder=()), coded(picture, (), 2))
        self.assertEqual(coded(picture)[0][4], ((1, -1, -1, 1, 1), (0, 1, 1, 2, 2)))
        self.assertEqual(coded(picture)[0][2], 2)

    def test_numbers_of_three_hundred_figures(self):
        head, bits = coded([[UTMOST, -UTMOST, 0]], ((1, 8, 8, 64, 0), (0, 8, 8, 64, 0)) * 3, 6)
        self.assertIs(is_head(head), True)
        self.assertGreater(head[3], 996)

    def test_kinds(self):
        stream = coded([[1, 2], [3, 4]])
        self.assertIs(type(stream), tuple)
        self.assertEqual([type(part) for part in stream], [tuple, str])


class Refusals(unittest.TestCase):
    def test_no_picture(self):
        for thing in NO_PICTURES:
            with self.subTest(thing=thing):
                with self.assertRaises(NoPicture):
                    coded(thing)

    def test_no_ladder(self):
        for thing in NO_LADDERS:
            with self.subTest(thing=thing):
                with self.assertRaises(NoLadder):
                    coded([[1]], thing)

    def test_no_level(self):
        for number, thing in enumerate(NO_LEVELS):
            with self.subTest(number=number):
                with self.assertRaises(NoLevel):
                    coded([[1]], None, thing)
                with self.assertRaises(NoLevel):
                    coded([[1]], LINE, thing)

    def test_each_of_0_to_6_levels_is_one(self):
        for levels in range(7):
            self.assertEqual(coded([[1]], LINE, levels)[0][2], levels)

    def test_their_order(self):
        with self.assertRaises(NoPicture):
            coded([], "line", 7)
        with self.assertRaises(NoPicture):
            coded([], LINE, 7)
        with self.assertRaises(NoPicture):
            coded([], "line", 2)
        with self.assertRaises(NoLadder):
            coded([[1]], "line", 7)


class SheetOf(unittest.TestCase):
    def test_by_hand(self):
        self.assertEqual(sheet_of((1, 5, 2, 0, ()), ["a", "b", "c", "d", "e"]), [["a", "d", "c", "e", "b"]])
        self.assertEqual(sheet_of((2, 2, 1, 0, ()), [(0, 1), (2, 3), (4, 5), (6, 7)]),
                         [[(0, 1), (2, 3)], [(4, 5), (6, 7)]])
        self.assertEqual(sheet_of((3, 1, 1, 0, ()), [1, 2, 3]), [[1], [3], [2]])

    def test_each_thing_stands_at_its_place(self):
        chance = random.Random(212)
        for high, wide in ((1, 1), (1, 9), (9, 1), (5, 6), (64, 64)):
            for levels in range(7):
                some = places(high, wide, levels)
                sheet = sheet_of((high, wide, levels, 0, some_ladder(chance, 2)), some)
                self.assertEqual(sheet, [[(i, j) for j in range(wide)] for i in range(high)])

    def test_the_list_stays_and_the_sheet_is_the_askers_own(self):
        some = [1, 2, 3, 4]
        sheet = sheet_of((2, 2, 0, 0, ()), some)
        sheet[0][0] = 99
        self.assertEqual(sheet, [[99, 2], [3, 4]])
        self.assertEqual(some, [1, 2, 3, 4])
        self.assertEqual(sheet_of((2, 2, 0, 0, ()), some), [[1, 2], [3, 4]])
        some[1] = 98
        self.assertEqual(sheet, [[99, 2], [3, 4]])


if __name__ == "__main__":
    unittest.main()
