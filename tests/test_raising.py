"""Points 2, 9 and 10: rows raised and lowered."""

import random
import unittest

from helping import GREAT, STRIDES, some_ladder, some_row
from liftwave.lifts import ladder_of, lowered, raised

LENGTHS = (1, 2, 3, 4, 5, 8, 9, 31, 33, 64, 65, 129, 130)


def raised_by_looking(row, ladder, stride):
    """The document's words over the things that take part alone, each lift into a new list."""
    part = row[::stride]
    for half, left, right, add, shift in ladder:
        done = list(part)
        for k in range(len(part)):
            if k % 2 == half and len(part) > 1:
                one = part[k - 1] if k > 0 else part[k + 1]
                other = part[k + 1] if k + 1 < len(part) else part[k - 1]
                done[k] = part[k] + (left * one + right * other + add) // 2 ** shift
        part = done
    whole = list(row)
    whole[::stride] = part
    return whole


class ByHand(unittest.TestCase):
    def test_still_leaves_the_row(self):
        self.assertEqual(raised([3, -1, 4], (), 1), [3, -1, 4])
        self.assertEqual(lowered([3, -1, 4], (), 1), [3, -1, 4])

    def test_an_odd_lift(self):
        self.assertEqual(raised([10, 20, 40, 0, 5], ((1, -1, -1, 1, 1),), 1), [10, -5, 40, -22, 5])
        self.assertEqual(lowered([10, -5, 40, -22, 5], ((1, -1, -1, 1, 1),), 1), [10, 20, 40, 0, 5])

    def test_an_even_lift(self):
        self.assertEqual(raised([10, -5, 40, -22, 5], ((0, 1, 1, 2, 2),), 1), [8, -5, 33, -22, -6])
        self.assertEqual(lowered([8, -5, 33, -22, -6], ((0, 1, 1, 2, 2),), 1), [10, -5, 40, -22, 5])

    def test_the_named_ladders(self):
        self.assertEqual(raised([1, 2, 3, 4], ladder_of("pair"), 1), [1, 1, 3, 1])
        self.assertEqual(raised([10, 20, 40, 0, 5], ladder_of("line"), 1), [8, -5, 33, -22, -6])
        self.assertEqual(raised([10, 20, 40, 0, 5], ladder_of("long"), 1), [8, -10, 33, -25, -6])
        self.assertEqual(lowered([8, -10, 33, -25, -6], ladder_of("long"), 1), [10, 20, 40, 0, 5])

    def test_left_and_right_are_told_apart(self):
        self.assertEqual(raised([1, 0, 100], ((1, 2, 0, 0, 0),), 1), [1, 2, 100])
        self.assertEqual(raised([1, 0, 100], ((1, 0, 2, 0, 0),), 1), [1, 200, 100])
        self.assertEqual(raised([1, 0, 100], ((1, 2, 3, 0, 0),), 1), [1, 302, 100])

    def test_the_one_neighbour_stands_for_both(self):
        self.assertEqual(raised([0, 7], ((0, 2, 3, 1, 0),), 1), [36, 7])
        self.assertEqual(raised([7, 0], ((1, 2, 3, 1, 0),), 1), [7, 36])

    def test_the_shift_goes_down(self):
        self.assertEqual(raised([-1, 0, 0], ((1, 1, 0, 0, 3),), 1), [-1, -1, 0])
        self.assertEqual(lowered([-1, 0, 0], ((1, 1, 0, 0, 3),), 1), [-1, 1, 0])
        self.assertEqual(raised([0, 0], ((1, 0, 0, -1, 8),), 1), [0, -1])

    def test_only_what_takes_part(self):
        row = [10, 91, 20, 92, 40, 93, 0, 94, 5, 95]
        self.assertEqual(raised(row, ladder_of("line"), 2), [8, 91, -5, 92, 33, 93, -22, 94, -6, 95])
        self.assertEqual(lowered(raised(row, ladder_of("line"), 2), ladder_of("line"), 2), row)

    def test_without_neighbours_nothing_is_added(self):
        for stride in STRIDES:
            for half in (0, 1):
                row = list(range(5, 5 + stride))
                self.assertEqual(raised([5], ((half, 8, 8, 64, 0),), stride), [5])
                self.assertEqual(lowered([5], ((half, 8, 8, 64, 0),), stride), [5])
                self.assertEqual(raised(row, ((half, 8, 8, 64, 0),), stride), row)

    def test_lifts_are_done_in_order_and_undone_the_last_one_first(self):
        ladder = ((1, 1, 0, 0, 0), (0, 0, 1, 0, 0))
        self.assertEqual(raised([1, 10], ladder, 1), [12, 11])
        self.assertEqual(raised([1, 10], ladder[::-1], 1), [11, 21])
        self.assertEqual(lowered([12, 11], ladder, 1), [1, 10])


class ByTheDefinition(unittest.TestCase):
    def each_case(self):
        chance = random.Random(10)
        for stride in STRIDES:
            for many in LENGTHS:
                for most in (3, 255, GREAT):
                    yield some_row(chance, many, most), some_ladder(chance, chance.randint(0, 6)), stride

    def test_raised(self):
        for row, ladder, stride in self.each_case():
            with self.subTest(row=row, ladder=ladder, stride=stride):
                self.assertEqual(raised(row, ladder, stride), raised_by_looking(row, ladder, stride))

    def test_each_part_at_its_ends(self):
        row = [GREAT, -GREAT, 3, -4, 0, -1, 255]
        for half in (0, 1):
            for left in (-8, 0, 8):
                for right in (-8, 0, 8):
                    for add in (-64, 0, 64):
                        for shift in (0, 1, 8):
                            ladder = ((half, left, right, add, shift),)
                            self.assertEqual(raised(row, ladder, 1), raised_by_looking(row, ladder, 1))
                            self.assertEqual(lowered(raised(row, ladder, 1), ladder, 1), row)

    def test_a_lift_changes_its_half_alone(self):
        chance = random.Random(11)
        for stride in STRIDES:
            for half in (0, 1):
                row = some_row(chance, 400, 1000)
                told = raised(row, ((half, 1, 1, 64, 0),), stride)
                for at in range(400):
                    if at % stride != 0 or at // stride % 2 != half:
                        self.assertEqual(told[at], row[at])

    def test_rows_of_thousands(self):
        chance = random.Random(12)
        row = some_row(chance, 5000, 10 ** 9)
        for stride in (1, 64):
            told = raised(row, ladder_of("long"), stride)
            self.assertEqual(told, raised_by_looking(row, ladder_of("long"), stride))
            self.assertEqual(lowered(told, ladder_of("long"), stride), row)


class Undoing(unittest.TestCase):
    def test_lowering_undoes_raising_and_raising_lowering(self):
        chance = random.Random(13)
        for many_lifts in range(7):
            for stride in STRIDES:
                for many in LENGTHS:
                    row = some_row(chance, many, chance.choice((1, 1000, GREAT)))
                    ladder = some_ladder(chance, many_lifts)
                    with self.subTest(row=row, ladder=ladder, stride=stride):
                        self.assertEqual(lowered(raised(row, ladder, stride), ladder, stride), row)
                        self.assertEqual(raised(lowered(row, ladder, stride), ladder, stride), row)

    def test_the_named_ladders(self):
        chance = random.Random(14)
        for name in ("still", "pair", "line", "long"):
            for stride in STRIDES:
                row = some_row(chance, 150, 10 ** 6)
                self.assertEqual(lowered(raised(row, ladder_of(name), stride), ladder_of(name), stride), row)
                self.assertEqual(raised(lowered(row, ladder_of(name), stride), ladder_of(name), stride), row)


class NothingIsChangedOrKept(unittest.TestCase):
    def test_the_row_handed_in_stays(self):
        for doing in (raised, lowered):
            for name in ("still", "pair", "line", "long"):
                row = [10, 20, 40, 0, 5]
                doing(row, ladder_of(name), 1)
                self.assertEqual(row, [10, 20, 40, 0, 5])

    def test_a_told_row_that_is_changed_changes_nothing_else(self):
        for doing in (raised, lowered):
            for name in ("still", "pair", "line", "long"):
                row = [10, 20, 40, 0, 5]
                first = doing(row, ladder_of(name), 1)
                kept = list(first)
                first[0] = 999
                first.append(1)
                self.assertEqual(row, [10, 20, 40, 0, 5])
                self.assertEqual(doing(row, ladder_of(name), 1), kept)

    def test_a_row_that_is_changed_later_changes_nothing_told(self):
        for doing in (raised, lowered):
            row = [10, 20, 40]
            told = doing(row, (), 1)
            row[0] = 999
            self.assertEqual(told, [10, 20, 40])

    def test_a_row_is_told_as_a_list(self):
        self.assertIs(type(raised([1], (), 1)), list)
        self.assertIs(type(lowered([1], (), 1)), list)


if __name__ == "__main__":
    unittest.main()
