"""Points 2 and 8: places, their levels and their order."""

import unittest

from liftwave.lattice import level_of, places

SIZES = [(1, 1), (1, 64), (64, 1), (64, 64), (63, 64), (2, 3), (8, 8), (33, 17), (1, 2), (5, 1)]


def greatest_level(i, j, levels):
    return max([k for k in range(levels + 1) if i % 2 ** k == 0 and j % 2 ** k == 0])


class LevelOf(unittest.TestCase):
    def test_by_the_definition(self):
        for levels in range(7):
            for i in range(66):
                for j in range(66):
                    self.assertEqual(level_of(i, j, levels), greatest_level(i, j, levels))

    def test_0_is_divided_by_all(self):
        for levels in range(7):
            self.assertEqual(level_of(0, 0, levels), levels)
        self.assertEqual(level_of(0, 4, 6), 2)
        self.assertEqual(level_of(4, 0, 6), 2)
        self.assertEqual(level_of(0, 64, 6), 6)
        self.assertEqual(level_of(0, 3, 6), 0)

    def test_both_must_be_divided(self):
        self.assertEqual(level_of(32, 8, 6), 3)
        self.assertEqual(level_of(8, 32, 6), 3)
        self.assertEqual(level_of(32, 1, 6), 0)
        self.assertEqual(level_of(48, 48, 6), 4)

    def test_at_most_levels(self):
        self.assertEqual(level_of(48, 48, 3), 3)
        self.assertEqual(level_of(64, 64, 0), 0)
        self.assertEqual(level_of(128, 256, 6), 6)

    def test_great_numbers(self):
        great = 10 ** 299
        for levels in range(7):
            self.assertEqual(level_of(great, great, levels), levels)
            self.assertEqual(level_of(great + 4, great, levels), min(levels, 2))
            self.assertEqual(level_of(0, great + 1, levels), 0)
            self.assertEqual(level_of(2 ** 900, 2 ** 5, levels), min(levels, 5))


class Places(unittest.TestCase):
    def test_each_place_once(self):
        for high, wide in SIZES:
            for levels in range(7):
                told = places(high, wide, levels)
                self.assertEqual(len(told), high * wide)
                self.assertEqual(set(told), {(i, j) for i in range(high) for j in range(wide)})

    def test_greater_levels_first_then_rising(self):
        for high, wide in SIZES:
            for levels in range(7):
                told = places(high, wide, levels)
                self.assertEqual(told, sorted(told, key=lambda at: (-greatest_level(at[0], at[1], levels), at)))

    def test_written_out(self):
        self.assertEqual(places(1, 1, 6), [(0, 0)])
        self.assertEqual(places(2, 2, 0), [(0, 0), (0, 1), (1, 0), (1, 1)])
        self.assertEqual(places(3, 3, 1), [(0, 0), (0, 2), (2, 0), (2, 2), (0, 1), (1, 0), (1, 1), (1, 2), (2, 1)])
        self.assertEqual(places(1, 5, 2), [(0, 0), (0, 4), (0, 2), (0, 1), (0, 3)])
        self.assertEqual(places(5, 1, 2), [(0, 0), (4, 0), (2, 0), (1, 0), (3, 0)])

    def test_told_as_a_list_of_tuples(self):
        told = places(3, 4, 2)
        self.assertIs(type(told), list)
        self.assertEqual({type(at) for at in told}, {tuple})

    def test_a_told_list_that_is_changed_changes_no_later_one(self):
        first = places(4, 4, 2)
        kept = list(first)
        first.reverse()
        first.append("more")
        self.assertEqual(places(4, 4, 2), kept)
        second = places(4, 4, 2)
        places(4, 4, 2).clear()
        self.assertEqual(second, kept)


if __name__ == "__main__":
    unittest.main()
