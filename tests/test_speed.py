"""The calls all and speed."""

import random
import unittest
from fractions import Fraction

from tests.helper import ALL, BEGIN, FASTEST, HUGE, ask, ask_last, ask_of, draw_slices, hull, read_corners, read_one
from tests.helper import slice_call, speed, text
from tests.oracle import corners_by_pairs, is_within, joined, speed_by_crossing

SQUARE = [(-1, -1), (1, -1), (1, 1), (-1, 1)]


def speed_of(velocities, a, b):
    return read_one(ask_of([(0, velocities)], speed(0, a, b))[0])


class AllTest(unittest.TestCase):
    def test_one_slice(self):
        for velocities in ([(0, 0)], [(2, 3)], [(2, 3), (-2, 0)], SQUARE):
            self.assertEqual(*ask_of([(0, velocities)], ALL, hull(0)))

    def test_several(self):
        slices = [(0, [(3, 0)]), (4, [(0, 3), (1, 1)]), (6, [(-3, 0)]), (7, [(0, 0)])]
        self.assertEqual(ask_of(slices, ALL), [[3, -3, 0, 3, 0, 0, 3]])

    def test_few_corners(self):
        self.assertEqual(ask_of([(0, [(0, 0)]), (1, [(0, 0)])], ALL), [[1, 0, 0]])
        self.assertEqual(ask_of([(0, [(1, 2)]), (1, [(0, 0)]), (2, [(-2, -4)])], ALL), [[2, -2, -4, 1, 2]])

    def test_middle_of_a_side(self):
        self.assertEqual(ask_of([(0, [(4, 0)]), (1, [(2, 2)]), (2, [(0, 4)])], ALL), [[3, 0, 0, 4, 0, 0, 4]])

    def test_each_velocity_of_each_slice(self):
        right = [(k, k * k) for k in range(30)]
        slices = [(k, right[3 * k:3 * k + 3]) for k in range(10)]
        self.assertEqual(read_corners(ask_of(slices, ALL)[0]), right)

    def test_as_hull_of_one_slice_with_all(self):
        source = random.Random(50)
        for k in range(200):
            slices = draw_slices(source, 6, 4, source.choice([1, 3, 9, 1000]), 20)
            with self.subTest(slices=slices):
                told = ask_of(slices, ALL)
                self.assertEqual(told, ask_of(joined(slices), hull(0)))
                self.assertEqual(read_corners(told[0]), corners_by_pairs(joined(slices)[0][1]))

    def test_as_the_slices_change(self):
        told = ask(ALL, slice_call(0, (1, 0)), ALL, slice_call(1, (3, 0)), ALL, slice_call(1, (9, 0)), ALL, BEGIN, ALL,
                   slice_call(0, (2, 0)), ALL)
        self.assertEqual(told[::2], [[-4], [2, 0, 0, 1, 0], [2, 0, 0, 3, 0], [2, 0, 0, 3, 0], [-4], [2, 0, 0, 2, 0]])


class SpeedTest(unittest.TestCase):
    def test_numbers_as_they_stand(self):
        self.assertEqual(ask_of([(0, [(3, 0), (0, 3)])], speed(0, 1, 1), speed(0, 2, 0), speed(0, -1, 0)),
                         [[0, *text("3/2")], [0, *text("3/2")], [0, *text("0/1")]])

    def test_to_a_corner(self):
        self.assertEqual(speed_of(SQUARE, 1, 1), 1)
        self.assertEqual(speed_of(SQUARE, -3, 3), Fraction(1, 3))
        self.assertEqual(speed_of([(6, 2), (2, 6)], 3, 1), 2)

    def test_between_corners(self):
        self.assertEqual(speed_of(SQUARE, 2, 1), Fraction(1, 2))
        self.assertEqual(speed_of(SQUARE, -1, 7), Fraction(1, 7))
        self.assertEqual(speed_of([(6, 0), (0, 3)], 1, 1), 2)

    def test_along_a_side(self):
        self.assertEqual(speed_of([(6, 0), (0, 3)], 1, 0), 6)
        self.assertEqual(speed_of([(6, 0), (0, 3)], 0, 2), Fraction(3, 2))
        self.assertEqual(speed_of([(-2, 0), (5, 0), (0, 3)], 1, 0), 5)
        self.assertEqual(speed_of([(-2, 0), (5, 0), (0, 3)], -1, 0), 2)
        self.assertEqual(speed_of([(4, 2), (0, 7)], 6, 3), Fraction(2, 3))

    def test_out_of_the_hull(self):
        for a, b in ((-1, 0), (0, -1), (-1, -1), (-1, 5), (5, -1), (1, -1000)):
            self.assertEqual(speed_of([(6, 0), (0, 3)], a, b), 0)
        self.assertEqual(speed_of([(-2, 0), (5, 0), (0, 3)], 9, -1), 0)

    def test_one_corner(self):
        for a, b in ((1, 0), (0, 1), (-1, 0), (0, -1), (3, 4), (-FASTEST, FASTEST)):
            self.assertEqual(ask_of([(0, [(0, 0)])], speed(0, a, b)), [[0, *text("0/1")]])

    def test_two_corners(self):
        line = [(4, 2)]
        told = [speed_of(line, a, b) for a, b in ((2, 1), (4, 2), (6, 3), (-2, -1), (1, 2), (-1, 2), (1, 0), (0, 1))]
        self.assertEqual(told, [2, 1, Fraction(2, 3), 0, 0, 0, 0, 0])
        both = [(4, 2), (-6, -3)]
        told = [speed_of(both, a, b) for a, b in ((2, 1), (-2, -1), (-4, -2), (2, -1))]
        self.assertEqual(told, [2, 3, Fraction(3, 2), 0])
        self.assertEqual([speed_of([(0, -5)], a, b) for a, b in ((0, -2), (0, 2), (1, -5))], [Fraction(5, 2), 0, 0])

    def test_direction_is_not_in_lowest_terms(self):
        self.assertEqual([speed_of([(12, 12)], k, k) for k in (1, 2, 8, 12, 24)],
                         [12, 6, Fraction(3, 2), 1, Fraction(1, 2)])

    def test_each_slice_its_own(self):
        self.assertEqual(ask_of([(0, [(1, 0)]), (7, [(5, 0)]), (9, [(0, 1)])], *[speed(i, 2, 0) for i in (0, 1, 2)]),
                         [[0, *text("1/2")], [0, *text("5/2")], [0, *text("0/1")]])

    def test_ends_of_the_range(self):
        fast = [(FASTEST * x, FASTEST * y) for x, y in SQUARE]
        self.assertEqual(speed_of(fast, FASTEST, -FASTEST), 1)
        self.assertEqual(speed_of(fast, 1, -999), Fraction(FASTEST, 999))
        self.assertEqual(speed_of([(1, 0), (-1, 1), (-1, -1)], FASTEST, 1), Fraction(1, 1002))

    def test_lies_in_the_hull_and_no_more(self):
        source = random.Random(51)
        kinds = {}
        for k in range(500):
            velocities = draw_slices(source, 1, 6, source.choice([1, 2, 4, 1000]), 1)[0][1]
            a, b = source.choice(velocities) if k % 3 == 0 else (source.randint(-4, 4), source.randint(-4, 4))
            if (a, b) == (0, 0):
                continue
            corners = corners_by_pairs(velocities)
            with self.subTest(velocities=velocities, a=a, b=b):
                r = speed_of(velocities, a, b)
                more = r + Fraction(1, 10 ** 12)
                self.assertTrue(is_within(corners, (r * a, r * b)))
                self.assertFalse(is_within(corners, (more * a, more * b)))
                self.assertEqual(r, speed_by_crossing(velocities, a, b))
            kind = (min(len(corners), 3), r > 0)
            kinds[kind] = kinds.get(kind, 0) + 1
        self.assertEqual(sorted(kinds), [(1, False), (2, False), (2, True), (3, False), (3, True)])


class RefusalTest(unittest.TestCase):
    def test_out_of_range(self):
        made = slice_call(0, *SQUARE)
        for bad in (FASTEST + 1, -FASTEST - 1, HUGE, -HUGE):
            self.assertEqual(ask(made, speed(0, bad, 1), speed(0, 1, bad), speed(0, bad, bad))[1:], [[-1]] * 3)
        for good in (FASTEST, -FASTEST):
            self.assertEqual(ask(made, speed(0, good, 1), speed(0, 1, good))[1:], [[0, *text("1/1000")]] * 2)

    def test_both_nought(self):
        self.assertEqual(ask_of([(0, SQUARE)], speed(0, 0, 0), speed(0, 0, 1), speed(0, 1, 0)),
                         [[-1], [0, *text("1/1")], [0, *text("1/1")]])

    def test_no_such_slice(self):
        told = ask_of([(0, SQUARE), (3, SQUARE)], *[speed(i, 1, 0) for i in (-1, 0, 1, 2, HUGE, -HUGE)])
        self.assertEqual(told, [[-2], [0, *text("1/1")], [0, *text("1/1")], [-2], [-2], [-2]])
        self.assertEqual(ask_last(speed(0, 1, 0)), [-2])

    def test_in_order(self):
        self.assertEqual(ask(speed(0, 0, 0), speed(5, FASTEST + 1, 0), speed(-1, 0, -FASTEST - 1), speed(5, 1, 0)),
                         [[-1], [-1], [-1], [-2]])

    def test_changes_nothing(self):
        good = [0, *text("1/2")]
        self.assertEqual(ask_of([(0, SQUARE)], speed(0, 2, 1), speed(0, 0, 0), speed(1, 2, 1), speed(0, 2, 1)),
                         [good, [-1], [-2], good])
        self.assertEqual(ask(ALL, slice_call(0, (1, 0)), ALL), [[-4], [1], [2, 0, 0, 1, 0]])


if __name__ == "__main__":
    unittest.main()
