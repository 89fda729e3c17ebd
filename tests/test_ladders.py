"""Points 10 and 11: what a ladder is, and ladders by names."""

import unittest

from liftwave.errors import NoLadder, WaveError
from liftwave.lifts import is_ladder, ladder_of

LIFT = (1, -1, 2, 3, 4)
RANGES = ((0, 1), (-8, 8), (-8, 8), (-64, 64), (0, 8))


def with_part(at, part):
    return LIFT[:at] + (part,) + LIFT[at + 1:]


class IsLadder(unittest.TestCase):
    def test_none_to_six_lifts(self):
        for many in range(7):
            self.assertIs(is_ladder((LIFT,) * many), True)

    def test_seven_lifts_and_more(self):
        for many in (7, 8, 100):
            self.assertIs(is_ladder((LIFT,) * many), False)

    def test_both_ends_of_each_range_and_one_beyond(self):
        for at, (low, high) in enumerate(RANGES):
            with self.subTest(at=at):
                self.assertIs(is_ladder((with_part(at, low),)), True)
                self.assertIs(is_ladder((with_part(at, high),)), True)
                self.assertIs(is_ladder((with_part(at, low - 1),)), False)
                self.assertIs(is_ladder((with_part(at, high + 1),)), False)
                self.assertIs(is_ladder((with_part(at, 10 ** 60),)), False)
                self.assertIs(is_ladder((with_part(at, -(10 ** 60)),)), False)

    def test_all_parts_at_their_ends_together(self):
        self.assertIs(is_ladder((tuple(low for low, high in RANGES), tuple(high for low, high in RANGES))), True)

    def test_too_few_or_too_many_parts(self):
        for lift in ((), (1,), LIFT[:4], LIFT + (0,), LIFT + LIFT):
            with self.subTest(lift=lift):
                self.assertIs(is_ladder((lift,)), False)

    def test_parts_that_are_no_whole_numbers(self):
        for at in range(5):
            for part in (True, False, None, "", "1", (), (1,), [1], {}, 1.0, 0.0, b"1", object()):
                with self.subTest(at=at, part=part):
                    self.assertIs(is_ladder((with_part(at, part),)), False)

    def test_a_wrong_lift_anywhere(self):
        for many in range(1, 7):
            for at in range(many):
                lifts = [LIFT] * many
                lifts[at] = (2, 0, 0, 0, 0)
                self.assertIs(is_ladder(tuple(lifts)), False)

    def test_lists_in_the_place_of_tuples(self):
        self.assertIs(is_ladder([]), False)
        self.assertIs(is_ladder([LIFT]), False)
        self.assertIs(is_ladder((list(LIFT),)), False)
        self.assertIs(is_ladder((LIFT, list(LIFT))), False)

    def test_a_lift_alone_is_no_ladder(self):
        self.assertIs(is_ladder(LIFT), False)

    def test_things_of_any_other_kind(self):
        things = (None, True, False, 0, 5, -1, 1.5, "", "line", "still", b"", {}, {1: LIFT}, set(), {LIFT},
                  frozenset(), object(), tuple, len, iter([]), range(0), (None,), ("abcde",), (1,), ((),),
                  (LIFT, None), ({0: 1, 1: 2, 2: 3, 3: 4, 4: 5},), (range(5),))
        for thing in things:
            with self.subTest(thing=thing):
                self.assertIs(is_ladder(thing), False)


class LadderOf(unittest.TestCase):
    def test_the_four_names(self):
        self.assertEqual(ladder_of("still"), ())
        self.assertEqual(ladder_of("pair"), ((1, -1, 0, 0, 0), (0, 0, 1, 0, 1)))
        self.assertEqual(ladder_of("line"), ((1, -1, -1, 1, 1), (0, 1, 1, 2, 2)))
        self.assertEqual(ladder_of("long"), ((1, -1, -1, 1, 1), (0, 1, 1, 2, 2), (1, -1, -1, 4, 3)))

    def test_each_is_a_ladder(self):
        for name in ("still", "pair", "line", "long"):
            self.assertIs(is_ladder(ladder_of(name)), True)

    def test_names_that_are_none(self):
        for name in ("", " ", "Still", "STILL", "Pair", "LINE", "lonG", "stil", "stills", "pai", "pairs", "lin",
                     "lines", "longs", "lon", " line", "line ", "line\n", "still pair", "haar", "None", "-", "0",
                     "x" * 20000):
            with self.subTest(name=name[:20]):
                with self.assertRaises(NoLadder):
                    ladder_of(name)

    def test_the_refusal_is_a_wave_error(self):
        with self.assertRaises(WaveError):
            ladder_of("lime")


if __name__ == "__main__":
    unittest.main()
