"""The call check."""

import random
import unittest

from tests.helper import FURTHEST, HUGE, LAST_TIME, ask, ask_last, ask_of, check, check_numbers, draw_slices, flat
from tests.helper import reach, slice_call
from tests.oracle import first_false

EAST_THEN_NORTH = [(0, [(1, 0)]), (4, [(0, 1)])]
FOUR_WAYS = [(1, 0), (-1, 0), (0, 1), (0, -1)]


def check_of(slices, t, *claims):
    return ask_of(slices, check(t, *claims))[0]


class CheckTest(unittest.TestCase):
    def test_each_can_be(self):
        self.assertEqual(check_of(EAST_THEN_NORTH, 0, (4, 4, 8)), [0])
        self.assertEqual(check_of(EAST_THEN_NORTH, 0, (2, 0, 2), (4, 0, 4), (4, 1, 5), (4, 1, 7)), [0])

    def test_first_too_fast(self):
        self.assertEqual(check_of(EAST_THEN_NORTH, 0, (4, 4, 7)), [1, 0])
        self.assertEqual(check_of(EAST_THEN_NORTH, 0, (3, 0, 2), (3, 0, 3), (3, 9, 5)), [1, 0])

    def test_later_one_too_fast(self):
        self.assertEqual(check_of(EAST_THEN_NORTH, 0, (3, 0, 3), (3, 2, 5), (3, 2, 6)), [1, 1])
        self.assertEqual(check_of(EAST_THEN_NORTH, 0, (3, 0, 3), (3, 1, 5), (3, 3, 6)), [1, 2])
        self.assertEqual(check_of([(0, FOUR_WAYS)], 0, *[(k, 0, k) for k in range(1, 20)], (-1, 0, 38)), [1, 19])

    def test_just_at_its_arrival(self):
        self.assertEqual([check_of(EAST_THEN_NORTH, 0, (4, 4, u)) for u in (7, 8, 9)], [[1, 0], [0], [0]])
        self.assertEqual([check_of([(0, [(3, 0)])], 0, (3, 0, 1), (10, 0, u)) for u in (3, 4)], [[1, 1], [0]])
        self.assertEqual([check_of([(0, [(3, 0)])], 0, (3, 0, 1), (9, 0, u)) for u in (2, 3)], [[1, 1], [0]])

    def test_never(self):
        self.assertEqual(check_of(EAST_THEN_NORTH, 0, (-1, 0, LAST_TIME)), [1, 0])
        self.assertEqual(check_of(EAST_THEN_NORTH, 0, (1, 0, 2), (2, 0, 3), (1, 0, LAST_TIME)), [1, 2])

    def test_first_from_nought_at_t(self):
        self.assertEqual([check_of([(0, FOUR_WAYS)], t, (2, 1, 9)) for t in (0, 5, 6, 7, 9)],
                         [[0], [0], [0], [1, 0], [1, 0]])
        self.assertEqual(check_of([(0, FOUR_WAYS)], 9, (0, 0, 9)), [0])

    def test_later_ones_from_the_claim_not_from_the_arrival(self):
        """One could have been there sooner, but the claim's time counts."""
        self.assertEqual(check_of([(0, FOUR_WAYS)], 0, (2, 0, 9), (4, 0, 10)), [1, 1])
        self.assertEqual(check_of([(0, FOUR_WAYS)], 0, (2, 0, 9), (4, 0, 11)), [0])

    def test_a_wind_that_is_over(self):
        self.assertEqual(check_of(EAST_THEN_NORTH, 0, (2, 0, 3), (3, 0, 9)), [0])
        self.assertEqual(check_of(EAST_THEN_NORTH, 0, (2, 0, 4), (3, 0, 9)), [1, 1])

    def test_times_equal_to_one_another(self):
        self.assertEqual(check_of([(0, FOUR_WAYS)], 3, (0, 0, 3), (0, 0, 3), (1, 0, 4), (1, 0, 4)), [0])
        self.assertEqual(check_of([(0, FOUR_WAYS)], 3, (0, 0, 3), (1, 0, 3)), [1, 1])
        self.assertEqual(check_of([(0, FOUR_WAYS)], 3, (0, 1, 3)), [1, 0])

    def test_twice_as_long_as_a_way(self):
        fast = [(0, [(1000 * x, 1000 * y) for x, y in FOUR_WAYS])]
        far = FURTHEST
        claims = [(far, far, 2000), (-far, far, 4000), (far, -far, 8000)]
        self.assertEqual(check_of(fast, 0, *claims), [0])
        self.assertEqual(check_of(fast, 0, *claims[:2], (far, -far, 7999)), [1, 2])
        self.assertEqual(check_of(fast, 0, claims[0], (-far, far, 3999)), [1, 1])

    def test_as_reach_tells(self):
        source = random.Random(40)
        for k in range(200):
            slices = draw_slices(source, 3, 4, 3, 6)
            x, y, t = source.randint(-6, 6), source.randint(-6, 6), source.randint(0, 6)
            u = t + source.randint(0, 6)
            told = ask_of(slices, reach(x, y, t, u), check(t, (x, y, u)))
            self.assertEqual(told[1], [0] if told[0] == [1] else [1, 0])

    def test_against_sets(self):
        source = random.Random(41)
        kinds = {}
        for k in range(400):
            slices = draw_slices(source, 4, 4, 3, 12)
            t = time = source.randint(0, 5)
            x = y = 0
            claims = []
            for j in range(source.randint(1, 5)):
                time += source.randint(0, 4)
                x, y = x + source.randint(-2, 2), y + source.randint(-2, 2)
                claims.append((x, y, time))
            with self.subTest(slices=slices, t=t, claims=claims):
                first = first_false(slices, t, claims)
                self.assertEqual(check_of(slices, t, *claims), [0] if first is None else [1, first])
            kinds[first] = kinds.get(first, 0) + 1
        self.assertGreater(min(kinds.get(first, 0) for first in (None, 0, 1, 2)), 10)


class RefusalTest(unittest.TestCase):
    def test_length(self):
        made = slice_call(0, *FOUR_WAYS)
        counts = (0, 1, 2, 3, 4, 5, 6, 57, 58, 59, 60)
        told = ask(made, *[check_numbers(0, [0] * count) for count in counts])[1:]
        self.assertEqual(told, [[0] if count in (3, 6, 57, 60) else [-1] for count in counts])

    def test_out_of_range(self):
        made = slice_call(0, *FOUR_WAYS)
        for k in range(3):
            for axis in (0, 1):
                for value in (FURTHEST + 1, -FURTHEST - 1, HUGE, -HUGE, FURTHEST, -FURTHEST):
                    claims = [[0, 0, 5], [0, 0, 6], [0, 0, 7]]
                    claims[k][axis] = value
                    right = [1, k] if abs(value) == FURTHEST else [-1]
                    self.assertEqual(ask_last(made, check(5, *claims)), right)
            for value in (-1, LAST_TIME + 1, HUGE, -HUGE):
                claims = [[0, 0, 5], [0, 0, 6], [0, 0, 7]]
                claims[k][2] = value
                self.assertEqual(ask_last(made, check(0, *claims)), [-1])
        for bad in (-1, LAST_TIME + 1, HUGE, -HUGE):
            self.assertEqual(ask_last(made, check(bad, (0, 0, LAST_TIME))), [-1])
        self.assertEqual(ask(made, check(0, (0, 0, 0)), check(LAST_TIME, (0, 0, LAST_TIME)))[1:], [[0], [0]])

    def test_before_the_one_before(self):
        told = ask_of([(0, FOUR_WAYS)], check(5, (0, 0, 4)), check(5, (0, 0, 5)), check(0, (0, 0, 5), (0, 0, 4)),
                      check(0, (0, 0, 5), (0, 0, 6), (0, 0, 5)), check(0, (0, 0, 5), (0, 0, 6), (0, 0, 6)))
        self.assertEqual(told, [[-5], [0], [-5], [-5], [0]])

    def test_before_though_an_earlier_claim_cannot_be(self):
        self.assertEqual(check_of([(0, FOUR_WAYS)], 0, (9, 9, 1), (9, 9, 0)), [-5])

    def test_no_slice_at_all(self):
        self.assertEqual(ask(check(0, (0, 0, 0)), check(0, (5, 5, 1))), [[-4], [-4]])

    def test_in_order(self):
        told = ask(check(5, (0, FURTHEST + 1, 4)), check(5, (0, 0, 4), (0, 0, LAST_TIME + 1)), check(5, (0, 0, -1)),
                   check(LAST_TIME + 1, (0, 0, 4)), check_numbers(5, flat([(0, 0, 4), (0, 0)])),
                   check(5, (0, 0, 4)), check(5, (0, 0, 6), (0, 0, 5)), check(5, (0, 0, 6)))
        self.assertEqual(told, [[-1]] * 5 + [[-5]] * 2 + [[-4]])
        self.assertEqual(ask_of([(0, FOUR_WAYS)], check(5, (0, 0, 4), (FURTHEST + 1, 0, 5))), [[-1]])

    def test_changes_nothing(self):
        told = ask_of(EAST_THEN_NORTH, check(0, (4, 4, 8)), check(9, (4, 4, 8)), check_numbers(0, [1]),
                      check(0, (4, 4, 7)), check(0, (4, 4, 8)))
        self.assertEqual(told, [[0], [-5], [-1], [1, 0], [0]])


if __name__ == "__main__":
    unittest.main()
