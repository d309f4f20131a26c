"""The calls hull, inside and support."""

import random
import unittest

from tests.helper import FASTEST, HUGE, ask, ask_last, ask_of, draw_slices, hull, inside, read_corners, slice_call
from tests.helper import support
from tests.oracle import bend, corners_by_pairs, support_by_words


def corners(*velocities):
    return read_corners(ask_last(slice_call(0, *velocities), hull(0)))


def is_inside(*velocities):
    return ask_last(slice_call(0, *velocities), inside(0))


class HullTest(unittest.TestCase):
    def test_all_at_rest(self):
        self.assertEqual(corners((0, 0)), [(0, 0)])
        self.assertEqual(corners((0, 0), (0, 0), (0, 0)), [(0, 0)])

    def test_one_velocity(self):
        self.assertEqual(corners((3, 2)), [(0, 0), (3, 2)])
        self.assertEqual(corners((3, -2)), [(3, -2), (0, 0)])
        self.assertEqual(corners((5, 0)), [(0, 0), (5, 0)])
        self.assertEqual(corners((-5, 0)), [(-5, 0), (0, 0)])

    def test_all_on_one_line(self):
        self.assertEqual(corners((2, 4), (1, 2), (3, 6)), [(0, 0), (3, 6)])
        self.assertEqual(corners((2, 4), (-1, -2), (0, 0)), [(-1, -2), (2, 4)])
        self.assertEqual(corners((-4, 0), (3, 0), (1, 0)), [(-4, 0), (3, 0)])
        self.assertEqual(corners((0, 7), (0, -7)), [(0, -7), (0, 7)])

    def test_line_that_misses_rest(self):
        self.assertEqual(corners((1, 1), (2, 1), (3, 1)), [(0, 0), (3, 1), (1, 1)])

    def test_middle_of_a_side(self):
        self.assertEqual(corners((4, 0), (4, 4), (0, 4), (2, 0), (4, 1), (3, 4), (0, 2)),
                         [(0, 0), (4, 0), (4, 4), (0, 4)])
        self.assertEqual(corners((4, 0), (0, 4), (2, 2), (1, 3)), [(0, 0), (4, 0), (0, 4)])

    def test_told_twice(self):
        self.assertEqual(corners((4, 0), (0, 4), (4, 0), (0, 4), (0, 0)), [(0, 0), (4, 0), (0, 4)])
        self.assertEqual(corners((4, 1), (4, 1)), [(0, 0), (4, 1)])

    def test_rest_within(self):
        self.assertEqual(corners((-1, -1), (2, -1), (0, 3), (0, 1)), [(-1, -1), (2, -1), (0, 3)])

    def test_rest_on_a_side(self):
        self.assertEqual(corners((-2, 0), (2, 0), (0, 3)), [(-2, 0), (2, 0), (0, 3)])
        self.assertEqual(corners((0, -2), (0, 2), (5, 0)), [(0, -2), (5, 0), (0, 2)])

    def test_rest_is_a_corner(self):
        self.assertEqual(corners((2, 1), (1, 2)), [(0, 0), (2, 1), (1, 2)])
        self.assertEqual(corners((2, -1), (1, -2)), [(1, -2), (2, -1), (0, 0)])

    def test_begins_lowest_then_furthest_west(self):
        self.assertEqual(corners((3, -2), (-3, -2), (1, -2), (3, 2), (-3, 2)), [(-3, -2), (3, -2), (3, 2), (-3, 2)])
        self.assertEqual(corners((9, -1), (-9, 9), (-9, -2)), [(-9, -2), (9, -1), (-9, 9)])

    def test_leftwards_round(self):
        self.assertEqual(corners((0, -2), (1, 2), (2, 0), (-1, 2), (-2, 0)),
                         [(0, -2), (2, 0), (1, 2), (-1, 2), (-2, 0)])

    def test_every_order_of_velocities(self):
        source = random.Random(1)
        velocities = [(3, -2), (-3, -2), (1, -2), (3, 2), (-3, 2), (0, 1), (3, 0)]
        for k in range(30):
            source.shuffle(velocities)
            self.assertEqual(corners(*velocities), [(-3, -2), (3, -2), (3, 2), (-3, 2)])

    def test_ends_of_the_range(self):
        square = [(-FASTEST, -FASTEST), (FASTEST, -FASTEST), (FASTEST, FASTEST), (-FASTEST, FASTEST)]
        self.assertEqual(corners(*square), square)

    def test_twenty_four_corners(self):
        right = [(k, k * k) for k in range(24)]
        self.assertEqual(corners(*reversed(right)), right)

    def test_each_slice_its_own(self):
        self.assertEqual(ask_of([(0, [(1, 0)]), (4, [(0, -1)]), (5, [(0, 0)])], hull(1), hull(0), hull(2)),
                         [[2, 0, -1, 0, 0], [2, 0, 0, 1, 0], [1, 0, 0]])

    def test_against_pairs(self):
        source = random.Random(2)
        for k in range(400):
            velocities = draw_slices(source, 1, 12, source.choice([1, 2, 4, 9, 1000]), 1)[0][1]
            with self.subTest(velocities=velocities):
                self.assertEqual(corners(*velocities), corners_by_pairs(velocities))

    def test_no_such_slice(self):
        made = [slice_call(0, (1, 0)), slice_call(3, (1, 0))]
        told = ask(*made, *[call(i) for call in (hull, inside) for i in (-1, 0, 1, 2, HUGE, -HUGE)])
        self.assertEqual(told[2:8], [[-2], [2, 0, 0, 1, 0], [2, 0, 0, 1, 0], [-2], [-2], [-2]])
        self.assertEqual(told[8:], [[-2], [0], [0], [-2], [-2], [-2]])
        self.assertEqual(ask(hull(0), inside(0)), [[-2], [-2]])

    def test_refusal_changes_nothing(self):
        told = ask(slice_call(0, (1, 0)), hull(1), inside(-1), support(1, 0, 0), support(0, 1001, 0), hull(0), hull(1))
        self.assertEqual(told[1:], [[-2], [-2], [-2], [-1], [2, 0, 0, 1, 0], [-2]])


class InsideTest(unittest.TestCase):
    def test_within(self):
        self.assertEqual(is_inside((-1, -1), (2, -1), (0, 3)), [1])
        self.assertEqual(is_inside((-1, 0), (1, 0), (0, 1), (0, -1)), [1])
        self.assertEqual(is_inside((-1000, -1), (1000, -1), (0, 1)), [1])

    def test_on_a_side(self):
        self.assertEqual(is_inside((-2, 0), (2, 0), (0, 3)), [0])
        self.assertEqual(is_inside((2, 1), (-4, -2), (-3, 9)), [0])
        self.assertEqual(is_inside((0, -2), (0, 2), (5, 0)), [0])
        self.assertEqual(is_inside((0, -2), (0, 2), (-5, 0)), [0])

    def test_a_corner(self):
        self.assertEqual(is_inside((2, 1), (1, 2)), [0])
        self.assertEqual(is_inside((-2, -1), (-1, -2)), [0])

    def test_fewer_than_three_corners(self):
        self.assertEqual(is_inside((0, 0)), [0])
        self.assertEqual(is_inside((1, 2)), [0])
        self.assertEqual(is_inside((1, 2), (-1, -2)), [0])
        self.assertEqual(is_inside((1, 0), (-1, 0)), [0])

    def test_against_sides(self):
        source = random.Random(3)
        seen = set()
        for k in range(300):
            velocities = draw_slices(source, 1, 6, 4, 1)[0][1]
            found = corners_by_pairs(velocities)
            within = len(found) > 2 and all(bend(p, q, (0, 0)) > 0 for p, q in zip(found, found[1:] + found[:1]))
            seen.add(within)
            with self.subTest(velocities=velocities):
                self.assertEqual(is_inside(*velocities), [int(within)])
        self.assertEqual(seen, {True, False})


class SupportTest(unittest.TestCase):
    def test_greatest(self):
        made = [slice_call(0, (3, 1), (-2, 5))]
        asked = [support(0, 1, 0), support(0, 0, 1), support(0, -1, 0), support(0, 2, 3), support(0, 3, -2)]
        self.assertEqual(ask(*made, *asked)[1:], [[3], [5], [2], [11], [7]])

    def test_never_below_nought(self):
        self.assertEqual(ask_last(slice_call(0, (3, 1), (2, 5)), support(0, -1, -1)), [0])
        self.assertEqual(ask_last(slice_call(0, (0, 0)), support(0, 7, 7)), [0])

    def test_no_direction(self):
        self.assertEqual(ask_last(slice_call(0, (3, 1), (2, 5)), support(0, 0, 0)), [0])

    def test_ends_of_the_range(self):
        made = slice_call(0, (FASTEST, FASTEST), (-FASTEST, -FASTEST))
        for a in (FASTEST, -FASTEST):
            self.assertEqual(ask_last(made, support(0, a, a)), [2000000])
        for bad in (FASTEST + 1, -FASTEST - 1, HUGE, -HUGE):
            with self.subTest(bad=bad):
                self.assertEqual(ask(made, support(0, bad, 0), support(0, 0, bad))[1:], [[-1], [-1]])

    def test_no_such_slice(self):
        told = ask(slice_call(0, (1, 0)), support(1, 1, 1), support(-1, 1, 1), support(HUGE, 1, 1), support(0, 1, 1))
        self.assertEqual(told[1:], [[-2], [-2], [-2], [1]])
        self.assertEqual(ask_last(support(0, 1, 1)), [-2])

    def test_refusals_in_order(self):
        self.assertEqual(ask(support(0, FASTEST + 1, 0), support(5, 0, -FASTEST - 1)), [[-1], [-1]])

    def test_each_slice_its_own(self):
        self.assertEqual(ask_of([(0, [(1, 0)]), (4, [(0, 2)])], support(0, 3, 5), support(1, 3, 5)), [[3], [10]])

    def test_against_velocities(self):
        source = random.Random(4)
        for k in range(200):
            velocities = draw_slices(source, 1, 8, 6, 1)[0][1]
            a, b = source.randint(-9, 9), source.randint(-9, 9)
            self.assertEqual(ask_last(slice_call(0, *velocities), support(0, a, b)),
                             [support_by_words(velocities, a, b)])


if __name__ == "__main__":
    unittest.main()
