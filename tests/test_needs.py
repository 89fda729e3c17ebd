"""Points 2 and 13: what is needed to lower a row at some places."""

import random
import unittest

from helping import NAMES, STRIDES, some_ladder, some_row
from liftwave.lifts import ladder_of, lowered
from liftwave.lowering import needs


def needed_by_looking(wanted, ladder, many, stride):
    taking_part = list(range(0, many, stride))
    lists = [list(wanted)]
    for lift in ladder:
        found = set(lists[-1])
        for at in lists[-1]:
            k = taking_part.index(at)
            if k % 2 == lift[0]:
                found |= {taking_part[n] for n in (k - 1, k + 1) if 0 <= n < len(taking_part)}
        lists.append(sorted(found))
    return lists


def each_case():
    chance = random.Random(130)
    for stride in STRIDES:
        for many in list(range(1, 20)) + [31, 32, 33, 63, 64]:
            places = list(range(0, many, stride))
            some = sorted(chance.sample(places, chance.randint(0, len(places))))
            ladder = chance.choice([ladder_of(name) for name in NAMES] + [some_ladder(chance, k) for k in range(7)])
            for wanted in ([], [places[0]], [places[-1]], [chance.choice(places)], some, places):
                yield chance, wanted, ladder, many, stride


class ByHand(unittest.TestCase):
    def test_no_lifts_need_no_more_than_what_is_wanted(self):
        self.assertEqual(needs([], (), 5, 1), [[]])
        self.assertEqual(needs([1, 3], (), 5, 1), [[1, 3]])

    def test_neighbours_of_the_half_alone(self):
        odd = (1, -1, -1, 1, 1)
        even = (0, 1, 1, 2, 2)
        self.assertEqual(needs([3], (odd,), 8, 1), [[3], [2, 3, 4]])
        self.assertEqual(needs([3], (even,), 8, 1), [[3], [3]])
        self.assertEqual(needs([4], (odd,), 8, 1), [[4], [4]])
        self.assertEqual(needs([4], (even,), 8, 1), [[4], [3, 4, 5]])

    def test_the_first_lift_first(self):
        self.assertEqual(needs([3], ladder_of("line"), 8, 1), [[3], [2, 3, 4], [1, 2, 3, 4, 5]])
        self.assertEqual(needs([4], ladder_of("line"), 8, 1), [[4], [4], [3, 4, 5]])
        self.assertEqual(needs([4], ladder_of("long"), 9, 1), [[4], [4], [3, 4, 5], [2, 3, 4, 5, 6]])

    def test_at_the_edges(self):
        self.assertEqual(needs([0], ((0, 1, 1, 0, 0),), 8, 1), [[0], [0, 1]])
        self.assertEqual(needs([7], ((1, 1, 1, 0, 0),), 8, 1), [[7], [6, 7]])
        self.assertEqual(needs([0], ((0, 1, 1, 0, 0), (1, 1, 1, 0, 0)), 1, 1), [[0], [0], [0]])

    def test_weights_of_0_need_the_neighbours_too(self):
        self.assertEqual(needs([3], ((1, 0, 0, 5, 0),), 8, 1), [[3], [2, 3, 4]])
        self.assertEqual(needs([3], ((1, 1, 0, 0, 0),), 8, 1), [[3], [2, 3, 4]])
        self.assertEqual(needs([3], ((1, 0, 1, 0, 0),), 8, 1), [[3], [2, 3, 4]])

    def test_by_strides(self):
        self.assertEqual(needs([4], ((1, 1, 1, 0, 0),), 9, 4), [[4], [0, 4, 8]])
        self.assertEqual(needs([4], ((1, 1, 1, 0, 0),), 8, 4), [[4], [0, 4]])
        self.assertEqual(needs([8], ((0, 1, 1, 0, 0),), 20, 4), [[8], [4, 8, 12]])
        self.assertEqual(needs([0], ((0, 1, 1, 0, 0),), 64, 64), [[0], [0]])


class ByTheDefinition(unittest.TestCase):
    def test_the_lists(self):
        for chance, wanted, ladder, many, stride in each_case():
            with self.subTest(wanted=wanted, ladder=ladder, many=many, stride=stride):
                kept = list(wanted)
                told = needs(wanted, ladder, many, stride)
                self.assertEqual(told, needed_by_looking(wanted, ladder, many, stride))
                self.assertEqual(wanted, kept)

    def test_rising_each_place_once_one_list_more_than_lifts(self):
        for chance, wanted, ladder, many, stride in each_case():
            told = needs(wanted, ladder, many, stride)
            self.assertEqual(len(told), len(ladder) + 1)
            for some in told:
                self.assertEqual(some, sorted(set(some)))

    def test_what_is_lowered_hangs_on_what_is_needed_alone(self):
        for chance, wanted, ladder, many, stride in each_case():
            row = some_row(chance, many, 1000)
            needed = needs(wanted, ladder, many, stride)[-1]
            other = [row[at] if at in needed else chance.randint(-1000, 1000) for at in range(many)]
            one = lowered(row, ladder, stride)
            two = lowered(other, ladder, stride)
            self.assertEqual([one[at] for at in wanted], [two[at] for at in wanted])

    def test_rows_of_thousands(self):
        for stride in (1, 64):
            wanted = list(range(0, 5000, stride))
            self.assertEqual(needs(wanted, ladder_of("long"), 5000, stride), [wanted] * 4)
        self.assertEqual(needs([2499], ladder_of("line"), 5000, 1)[-1], list(range(2497, 2502)))


class NothingIsChangedOrKept(unittest.TestCase):
    def test_a_told_list_that_is_changed_changes_no_other_one(self):
        for ladder in ((), ((0, 1, 1, 0, 0),), ladder_of("line"), ((1, 1, 1, 0, 0),) * 6):
            wanted = [0, 2]
            kept = [list(some) for some in needs(wanted, ladder, 3, 1)]
            for at in range(len(kept)):
                told = needs(wanted, ladder, 3, 1)
                told[at].append(99)
                told[at][0] = 98
                self.assertEqual(wanted, [0, 2])
                for other in range(len(kept)):
                    if other != at:
                        self.assertEqual(told[other], kept[other])
                self.assertEqual(needs(wanted, ladder, 3, 1), kept)

    def test_what_is_wanted_changed_later_changes_nothing_told(self):
        wanted = [0, 2]
        told = needs(wanted, ((1, 1, 1, 0, 0),), 3, 1)
        wanted.append(99)
        self.assertEqual(told, [[0, 2], [0, 2]])


if __name__ == "__main__":
    unittest.main()
