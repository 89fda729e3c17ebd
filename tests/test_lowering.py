"""Points 2, 3, 12 and 16: rows of spans and of breadths lowered."""

import itertools
import random
import unittest

from helping import GREAT, NAMES, STRIDES, UTMOST, single, some_ladder, some_row, some_span, some_within
from liftwave.lifts import ladder_of, lowered, raised
from liftwave.lowering import lowered_breadths, lowered_spans

LENGTHS = (1, 2, 3, 4, 5, 9, 33, 64, 65, 130)


def lowered_by_looking(row, ladder, stride, undone):
    """Each lift undone into a new list, over the things that take part alone; undone(thing, lift, left, right)."""
    part = row[::stride]
    for lift in ladder[::-1]:
        done = list(part)
        for k in range(len(part)):
            if k % 2 == lift[0] and len(part) > 1:
                left = part[k - 1] if k > 0 else part[k + 1]
                right = part[k + 1] if k + 1 < len(part) else part[k - 1]
                done[k] = undone(part[k], lift, left, right)
        part = done
    whole = list(row)
    whole[::stride] = part
    return whole


def span_undone(thing, lift, left, right):
    sums = [a * lift[1] + b * lift[2] + lift[3] for a in left for b in right]
    return (thing[0] - max(sums) // 2 ** lift[4], thing[1] - min(sums) // 2 ** lift[4])


def breadth_undone(thing, lift, left, right):
    total = left * abs(lift[1]) + right * abs(lift[2])
    power = 2 ** lift[4]
    return thing + total // power + (1 if total % power else 0)


def each_ladder(chance):
    for name in NAMES:
        yield ladder_of(name)
    for many in range(7):
        yield some_ladder(chance, many)
        yield some_ladder(chance, many)


def numbers_of(spans, chance):
    return [chance.randint(low, high) for low, high in spans]


class SpansByHand(unittest.TestCase):
    def test_still_leaves_the_row(self):
        self.assertEqual(lowered_spans([(1, 2), (-3, 4)], (), 1), [(1, 2), (-3, 4)])

    def test_one_odd_lift(self):
        self.assertEqual(lowered_spans([(0, 2), (10, 11), (4, 4)], ((1, 1, 1, 0, 0),), 1), [(0, 2), (4, 7), (4, 4)])

    def test_one_even_lift(self):
        self.assertEqual(lowered_spans([(0, 2), (10, 11), (4, 4)], ((0, 1, 0, 0, 0),), 1),
                         [(-11, -8), (10, 11), (-7, -6)])

    def test_weights_below_0_turn_the_span(self):
        self.assertEqual(lowered_spans([(0, 2), (10, 11), (4, 4)], ((1, -1, 0, 0, 0),), 1), [(0, 2), (10, 13), (4, 4)])
        self.assertEqual(lowered_spans([(0, 2), (10, 10), (1, 5)], ((1, -1, 2, 0, 0),), 1), [(0, 2), (0, 10), (1, 5)])

    def test_weights_of_0_leave_what_is_added(self):
        self.assertEqual(lowered_spans([(-9, 9), (1, 2), (-9, 9)], ((1, 0, 0, 5, 0),), 1), [(-9, 9), (-4, -3), (-9, 9)])

    def test_what_is_added_is_halved_too_and_downwards(self):
        self.assertEqual(lowered_spans([(0, 1), (0, 0)], ((1, 1, 0, 1, 1),), 1), [(0, 1), (-1, 0)])
        self.assertEqual(lowered_spans([(-3, -1), (0, 0)], ((1, 1, 0, 0, 1),), 1), [(-3, -1), (1, 2)])
        self.assertEqual(lowered_spans([(-1, 0), (0, 0)], ((1, 1, 0, 0, 8),), 1), [(-1, 0), (0, 1)])

    def test_the_same_neighbour_at_both_sides_counts_each_for_itself(self):
        # 1 * x - 1 * x is 0 for every x, but left and right are taken each for itself.
        self.assertEqual(lowered_spans([(0, 3), (7, 7)], ((1, 1, -1, 0, 0),), 1), [(0, 3), (4, 10)])
        self.assertEqual(lowered_spans([(7, 7), (0, 3)], ((0, 1, -1, 0, 0),), 1), [(4, 10), (0, 3)])
        self.assertEqual(lowered_spans([(0, 3), (7, 7)], ((1, 3, -2, 0, 0),), 1), [(0, 3), (-2, 13)])
        self.assertEqual(lowered_spans([(0, 3), (0, 0), (1, 1), (7, 7)], ((1, 1, -1, 0, 0),), 1)[3], (7, 7))

    def test_without_neighbours_nothing_is_taken(self):
        for stride in STRIDES:
            for half in (0, 1):
                self.assertEqual(lowered_spans([(1, 2)] * stride, ((half, 8, 8, 64, 0),), stride), [(1, 2)] * stride)

    def test_only_what_takes_part(self):
        row = [(0, 2), (90, 91), (10, 11), (92, 93), (4, 4), (94, 95)]
        self.assertEqual(lowered_spans(row, ((1, 1, 1, 0, 0),), 2),
                         [(0, 2), (90, 91), (4, 7), (92, 93), (4, 4), (94, 95)])

    def test_the_last_lift_is_undone_first(self):
        ladder = ((1, 1, 0, 0, 0), (0, 0, 1, 0, 0))
        self.assertEqual(lowered_spans([(12, 13), (11, 11)], ladder, 1), [(1, 2), (9, 10)])


class SpansByTheDefinition(unittest.TestCase):
    def each_case(self):
        chance = random.Random(120)
        for stride in STRIDES:
            for many in LENGTHS:
                for ladder in each_ladder(chance):
                    most = chance.choice((3, 255, GREAT))
                    yield chance, [some_span(chance, most) for k in range(many)], ladder, stride

    def test_lowered_and_each_choice_lies_in_it(self):
        for chance, row, ladder, stride in self.each_case():
            with self.subTest(row=row, ladder=ladder, stride=stride):
                kept = list(row)
                told = lowered_spans(row, ladder, stride)
                self.assertEqual(told, lowered_by_looking(row, ladder, stride, span_undone))
                self.assertEqual(row, kept)
                for number, span in zip(lowered(numbers_of(row, chance), ladder, stride), told, strict=True):
                    self.assertTrue(span[0] <= number <= span[1])

    def test_every_choice_of_small_spans(self):
        chance = random.Random(121)
        for ladder in each_ladder(chance):
            row = [(low, low + chance.randint(0, 2)) for low in some_row(chance, 5, 9)]
            told = lowered_spans(row, ladder, 1)
            for numbers in itertools.product(*(range(low, high + 1) for low, high in row)):
                for number, span in zip(lowered(list(numbers), ladder, 1), told):
                    self.assertTrue(span[0] <= number <= span[1], (row, ladder, numbers))

    def test_one_lift_gives_the_least_spans_where_the_neighbours_are_two(self):
        chance = random.Random(122)
        for turn in range(60):
            ladder = ((1,) + some_ladder(chance, 1)[0][1:],)
            row = [(low, low + chance.randint(0, 3)) for low in some_row(chance, 3, 9)]
            choices = itertools.product(*(range(low, high + 1) for low, high in row))
            found = [lowered(list(numbers), ladder, 1)[1] for numbers in choices]
            self.assertEqual(lowered_spans(row, ladder, 1)[1], (min(found), max(found)))

    def test_spans_of_one_number_become_the_lowered_number(self):
        chance = random.Random(123)
        for stride in STRIDES:
            for many in LENGTHS:
                for ladder in each_ladder(chance):
                    row = some_row(chance, many, chance.choice((9, GREAT, UTMOST)))
                    told = lowered_spans(single(row), ladder, stride)
                    self.assertEqual(told, single(lowered(row, ladder, stride)))
                    back = lowered_spans(single(raised(row, ladder, stride)), ladder, stride)
                    self.assertEqual(back, single(row))

    def test_spans_within_spans_are_lowered_to_spans_within_spans(self):
        for chance, row, ladder, stride in self.each_case():
            inner = [some_within(chance, span) for span in row]
            pairs = zip(lowered_spans(inner, ladder, stride), lowered_spans(row, ladder, stride), strict=True)
            for one, other in pairs:
                self.assertTrue(other[0] <= one[0] <= one[1] <= other[1], (row, inner, ladder, stride))

    def test_rows_of_thousands_and_ends_of_three_hundred_figures(self):
        chance = random.Random(124)
        row = [some_span(chance, UTMOST) for k in range(5000)]
        for stride in (1, 64):
            ladder = some_ladder(chance, 6)
            self.assertEqual(lowered_spans(row, ladder, stride), lowered_by_looking(row, ladder, stride, span_undone))


class Breadths(unittest.TestCase):
    def each_case(self):
        chance = random.Random(160)
        for stride in STRIDES:
            for many in LENGTHS:
                for ladder in each_ladder(chance):
                    most = chance.choice((0, 3, 255, GREAT))
                    yield chance, [abs(number) for number in some_row(chance, many, most)], ladder, stride

    def test_by_hand(self):
        self.assertEqual(lowered_breadths([3, 7], (), 1), [3, 7])
        self.assertEqual(lowered_breadths([1, 10, 4], ((1, 1, 1, 0, 0),), 1), [1, 15, 4])
        self.assertEqual(lowered_breadths([1, 10, 4], ((0, 1, 1, 0, 0),), 1), [21, 10, 24])
        self.assertEqual(lowered_breadths([1, 10, 4], ((1, 2, 0, 0, 0),), 1), [1, 12, 4])
        self.assertEqual(lowered_breadths([1, 10, 4], ((1, 0, 2, 0, 0),), 1), [1, 18, 4])

    def test_rounded_up(self):
        for sum_of_both, gained in ((0, 0), (1, 1), (2, 1), (3, 1), (4, 1), (5, 2), (8, 2), (9, 3)):
            self.assertEqual(lowered_breadths([sum_of_both, 0, 0], ((1, 1, 1, 0, 2),), 1), [sum_of_both, gained, 0])
        self.assertEqual(lowered_breadths([1, 0], ((1, 0, 1, 0, 8),), 1), [1, 1])

    def test_both_sides_are_added_before_they_are_rounded(self):
        self.assertEqual(lowered_breadths([1, 0, 1], ((1, 1, 1, 0, 1),), 1), [1, 1, 1])

    def test_weights_below_0_are_taken_without_sign(self):
        self.assertEqual(lowered_breadths([1, 10, 4], ((1, -2, -3, 0, 0),), 1), [1, 24, 4])
        self.assertEqual(lowered_breadths([1, 10, 4], ((1, 2, -3, 0, 0),), 1), [1, 24, 4])
        self.assertEqual(lowered_breadths([2, 10], ((1, 1, -1, 0, 0),), 1), [2, 14])

    def test_what_a_lift_adds_does_not_count(self):
        for add in (-64, -1, 1, 64):
            self.assertEqual(lowered_breadths([1, 10, 4], ((1, 1, 1, add, 1),), 1), [1, 13, 4])

    def test_the_last_lift_is_undone_first(self):
        ladder = ((1, 1, 0, 0, 0), (0, 0, 1, 0, 0))
        self.assertEqual(lowered_breadths([1, 10], ladder, 1), [11, 21])

    def test_by_the_definition(self):
        for chance, row, ladder, stride in self.each_case():
            with self.subTest(row=row, ladder=ladder, stride=stride):
                kept = list(row)
                self.assertEqual(lowered_breadths(row, ladder, stride),
                                 lowered_by_looking(row, ladder, stride, breadth_undone))
                self.assertEqual(row, kept)

    def test_no_span_that_is_lowered_is_broader(self):
        for chance, row, ladder, stride in self.each_case():
            lows = some_row(chance, len(row), 1000)
            spans = [(low, low + breadth) for low, breadth in zip(lows, row)]
            told = lowered_breadths(row, ladder, stride)
            for span, most in zip(lowered_spans(spans, ladder, stride), told, strict=True):
                self.assertLessEqual(span[1] - span[0], most)

    def test_rows_of_thousands_and_three_hundred_figures(self):
        chance = random.Random(161)
        row = [abs(number) for number in some_row(chance, 5000, UTMOST)]
        ladder = some_ladder(chance, 6)
        self.assertEqual(lowered_breadths(row, ladder, 2), lowered_by_looking(row, ladder, 2, breadth_undone))


class NothingIsChangedOrKept(unittest.TestCase):
    def test_told_rows_are_the_askers_own(self):
        for doing, row in ((lowered_spans, [(0, 1), (2, 5), (3, 3)]), (lowered_breadths, [1, 3, 0])):
            for name in NAMES:
                handed = list(row)
                first = doing(handed, ladder_of(name), 1)
                self.assertIs(type(first), list)
                kept = list(first)
                first[0] = None
                first.append(None)
                self.assertEqual(handed, row)
                second = doing(handed, ladder_of(name), 1)
                self.assertEqual(second, kept)
                handed[0] = None
                handed.append(None)
                self.assertEqual(second, kept)

    def test_spans_are_tuples_of_whole_numbers(self):
        for span in lowered_spans([(0, 1), (2, 5), (3, 3)], ladder_of("long"), 1):
            self.assertIs(type(span), tuple)
            self.assertEqual([type(end) for end in span], [int, int])


if __name__ == "__main__":
    unittest.main()
