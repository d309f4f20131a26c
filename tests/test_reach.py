"""The call reach."""

import random
import unittest

from tests.helper import FURTHEST, HUGE, LAST_TIME, ask, ask_last, ask_of, draw_slices, least, reach, read_least
from tests.helper import slice_call

EAST_THEN_NORTH = [(0, [(1, 0)]), (4, [(0, 1)])]
FOUR_WAYS = [(1, 0), (-1, 0), (0, 1), (0, -1)]


class ReachTest(unittest.TestCase):
    def test_at_or_before(self):
        told = ask_of(EAST_THEN_NORTH, *[reach(4, 4, 0, u) for u in (0, 4, 7, 8, 9, LAST_TIME)])
        self.assertEqual(told, [[0], [0], [0], [1], [1], [1]])

    def test_no_whole_number(self):
        slices = [(0, [(3, 0)])]
        self.assertEqual(ask_of(slices, *[reach(7, 0, 0, u) for u in (0, 1, 2, 3, 4)]), [[0], [0], [0], [1], [1]])
        self.assertEqual(ask_of(slices, *[reach(7, 0, 2, u) for u in (2, 4, 5)]), [[0], [0], [1]])

    def test_at_once(self):
        self.assertEqual(ask_of(EAST_THEN_NORTH, reach(0, 0, 0, 0), reach(0, 0, 7, 7), reach(1, 0, 3, 3),
                                reach(0, 0, LAST_TIME, LAST_TIME)), [[1], [1], [0], [1]])

    def test_never(self):
        self.assertEqual(ask_of(EAST_THEN_NORTH, reach(5, 1, 0, LAST_TIME), reach(-1, 0, 0, 0)), [[0], [0]])

    def test_just_at_a_slices_end(self):
        self.assertEqual(ask_of(EAST_THEN_NORTH, reach(4, 0, 0, 3), reach(4, 0, 0, 4), reach(1, 0, 3, 4),
                                reach(1, 0, 4, 9)), [[0], [1], [1], [0]])

    def test_last_second(self):
        self.assertEqual(ask_of([(0, FOUR_WAYS)], reach(FURTHEST, 0, 0, LAST_TIME), reach(FURTHEST, 0, 1, LAST_TIME),
                                reach(-FURTHEST, 1, 0, LAST_TIME)), [[1], [0], [0]])

    def test_as_least_tells(self):
        source = random.Random(8)
        seen = set()
        for k in range(400):
            slices = draw_slices(source, 3, 4, 3, 6)
            x, y, t = source.randint(-6, 6), source.randint(-6, 6), source.randint(0, 6)
            us = range(t, t + 8)
            told = ask_of(slices, least(x, y, t), *[reach(x, y, t, u) for u in us])
            time = read_least(told[0])[2]
            right = [[int(time is not None and time <= u)] for u in us]
            seen.update(numbers[0] for numbers in told[1:])
            with self.subTest(slices=slices, x=x, y=y, t=t):
                self.assertEqual(told[1:], right)
        self.assertEqual(seen, {0, 1})


class RefusalTest(unittest.TestCase):
    def test_out_of_range(self):
        made = slice_call(0, *FOUR_WAYS)
        for bad in (FURTHEST + 1, -FURTHEST - 1, HUGE, -HUGE):
            self.assertEqual(ask(made, reach(bad, 0, 0, 9), reach(0, bad, 0, 9))[1:], [[-1], [-1]])
        for bad in (-1, -HUGE):
            self.assertEqual(ask(made, reach(0, 0, bad, 9), reach(0, 0, bad, bad))[1:], [[-1], [-1]])
        for bad in (LAST_TIME + 1, HUGE):
            self.assertEqual(ask(made, reach(0, 0, 0, bad), reach(0, 0, bad, bad))[1:], [[-1], [-1]])
        for good in (FURTHEST, -FURTHEST):
            self.assertEqual(ask(made, reach(good, 0, 0, LAST_TIME), reach(0, good, 0, LAST_TIME))[1:], [[1], [1]])

    def test_end_before_the_beginning(self):
        told = ask_of([(0, FOUR_WAYS)], reach(0, 0, 5, 4), reach(0, 0, 5, 5), reach(0, 0, 1, 0),
                      reach(0, 0, LAST_TIME, LAST_TIME - 1), reach(0, 0, 5, -1))
        self.assertEqual(told, [[-1], [1], [-1], [-1], [-1]])

    def test_no_slice_at_all(self):
        self.assertEqual(ask_last(reach(0, 0, 0, 0)), [-4])

    def test_in_order(self):
        self.assertEqual(ask(reach(FURTHEST + 1, 0, 0, 0), reach(0, 0, 5, 4), reach(0, 0, 0, LAST_TIME + 1),
                             reach(0, 0, -1, 0)), [[-1]] * 4)

    def test_changes_nothing(self):
        told = ask_of(EAST_THEN_NORTH, reach(4, 4, 0, 8), reach(4, 4, 9, 8), reach(4, 4, 0, 8), reach(4, 4, 0, 7))
        self.assertEqual(told, [[1], [-1], [1], [0]])


if __name__ == "__main__":
    unittest.main()
