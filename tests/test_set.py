"""The call set."""

import random
import unittest

from tests.helper import FURTHEST, HUGE, LAST_TIME, ask, ask_last, ask_of, draw_slices, hull, reach, read_corners
from tests.helper import round_slices, set_call, slice_call
from tests.oracle import bend, is_within, set_by_sums, set_support

EAST_THEN_NORTH = [(0, [(1, 0)]), (4, [(0, 1)])]
SQUARE = [(-1, -1), (1, -1), (1, 1), (-1, 1)]
DIAMOND = [(0, -1), (1, 0), (0, 1), (-1, 0)]


def corners(slices, t, u):
    return read_corners(ask_of(slices, set_call(t, u))[0])


def sides(found):
    return [(q[0] - p[0], q[1] - p[1]) for p, q in zip(found, found[1:] + found[:1])]


class NoTimeTest(unittest.TestCase):
    def test_one_corner(self):
        for slices in (EAST_THEN_NORTH, [(0, SQUARE)], [(0, [(0, 0)])], [(0, [(3, 4)]), (7, DIAMOND)]):
            for t in (0, 3, 4, 7, 8, LAST_TIME):
                self.assertEqual(ask_of(slices, set_call(t, t)), [[1, 0, 0]])


class OneSliceTest(unittest.TestCase):
    def test_one_corner(self):
        self.assertEqual(corners([(0, [(0, 0)])], 2, 9), [(0, 0)])

    def test_two_corners(self):
        self.assertEqual(corners([(0, [(2, 1)])], 0, 5), [(0, 0), (10, 5)])
        self.assertEqual(corners([(0, [(2, -1)])], 0, 5), [(10, -5), (0, 0)])
        self.assertEqual(corners([(0, [(-2, 0), (3, 0)])], 1, 5), [(-8, 0), (12, 0)])
        self.assertEqual(corners([(0, [(0, -2), (0, 3)])], 1, 5), [(0, -8), (0, 12)])

    def test_three_and_more(self):
        self.assertEqual(corners([(0, [(2, 0), (0, 2)])], 0, 3), [(0, 0), (6, 0), (0, 6)])
        self.assertEqual(corners([(0, SQUARE)], 5, 7), [(-2, -2), (2, -2), (2, 2), (-2, 2)])
        self.assertEqual(corners([(0, DIAMOND)], 0, 1), DIAMOND)

    def test_a_second_is_the_hull(self):
        source = random.Random(20)
        for k in range(100):
            slices = draw_slices(source, 1, 9, source.choice([1, 3, 1000]), 1)
            self.assertEqual(*ask_of(slices, hull(0), set_call(k, k + 1)))

    def test_part_of_a_slice(self):
        self.assertEqual(corners(EAST_THEN_NORTH, 0, 3), [(0, 0), (3, 0)])
        self.assertEqual(corners(EAST_THEN_NORTH, 1, 3), [(0, 0), (2, 0)])
        self.assertEqual(corners(EAST_THEN_NORTH, 1, 4), [(0, 0), (3, 0)])

    def test_behind_the_last_beginning(self):
        self.assertEqual(corners(EAST_THEN_NORTH, 4, 9), [(0, 0), (0, 5)])
        self.assertEqual(corners(EAST_THEN_NORTH, 8, 9), [(0, 0), (0, 1)])
        self.assertEqual(corners(EAST_THEN_NORTH, LAST_TIME - 1, LAST_TIME), [(0, 0), (0, 1)])


class SeveralSlicesTest(unittest.TestCase):
    def test_two_lines_unlike(self):
        self.assertEqual(corners(EAST_THEN_NORTH, 0, 9), [(0, 0), (4, 0), (4, 5), (0, 5)])
        self.assertEqual(corners(EAST_THEN_NORTH, 3, 5), [(0, 0), (1, 0), (1, 1), (0, 1)])
        self.assertEqual(corners([(0, [(1, 1)]), (2, [(1, -1)])], 0, 5), [(3, -3), (5, -1), (2, 2), (0, 0)])

    def test_two_lines_alike(self):
        self.assertEqual(corners([(0, [(1, 2)]), (2, [(3, 6)])], 0, 5), [(0, 0), (11, 22)])
        self.assertEqual(corners([(0, [(1, 2)]), (2, [(-3, -6)])], 0, 5), [(-9, -18), (2, 4)])
        self.assertEqual(corners([(0, [(-1, 0)]), (2, [(2, 0)])], 1, 5), [(-1, 0), (6, 0)])
        self.assertEqual(corners([(0, [(0, -1)]), (2, [(0, 1), (0, 2)])], 0, 3), [(0, -2), (0, 2)])

    def test_rest_adds_nothing(self):
        slices = [(0, [(0, 0)]), (3, [(0, 2)]), (5, [(0, 0)])]
        self.assertEqual([corners(slices, 0, u) for u in (0, 3, 4, 5, 9)],
                         [[(0, 0)], [(0, 0)], [(0, 0), (0, 2)], [(0, 0), (0, 4)], [(0, 0), (0, 4)]])
        self.assertEqual(corners(slices, 5, LAST_TIME), [(0, 0)])

    def test_line_and_figure(self):
        self.assertEqual(corners([(0, [(2, 1)]), (2, SQUARE)], 0, 3),
                         [(-1, -1), (1, -1), (5, 1), (5, 3), (3, 3), (-1, 1)])
        self.assertEqual(corners([(0, [(2, 0)]), (2, SQUARE)], 0, 3), [(-1, -1), (5, -1), (5, 1), (-1, 1)])
        self.assertEqual(corners([(0, SQUARE), (1, [(0, -3)])], 0, 2), [(-1, -4), (1, -4), (1, 1), (-1, 1)])

    def test_square_and_diamond(self):
        eight = [(-1, -3), (1, -3), (3, -1), (3, 1), (1, 3), (-1, 3), (-3, 1), (-3, -1)]
        self.assertEqual(corners([(0, SQUARE), (1, DIAMOND)], 0, 3), eight)
        self.assertEqual(corners([(0, DIAMOND), (2, SQUARE)], 0, 3), eight)

    def test_sides_that_lie_alike(self):
        self.assertEqual(corners([(0, SQUARE), (1, [(2, 0), (2, 2), (0, 2)])], 0, 2),
                         [(-1, -1), (3, -1), (3, 3), (-1, 3)])
        self.assertEqual(corners([(0, [(2, 0), (0, 2)]), (3, [(3, 0), (0, 3)])], 0, 5), [(0, 0), (12, 0), (0, 12)])
        self.assertEqual(corners([(0, [(2, 1), (1, 2)]), (3, [(-2, -1), (1, -1)])], 0, 4),
                         [(-2, -1), (1, -1), (7, 2), (3, 6), (1, 5)])

    def test_alike_but_the_other_way_round(self):
        self.assertEqual(corners([(0, [(2, 0), (0, 2)]), (1, [(-2, 0), (0, -2)])], 0, 2),
                         [(0, -2), (2, -2), (2, 0), (0, 2), (-2, 2), (-2, 0)])

    def test_slices_ahead_and_behind_are_left_out(self):
        slices = [(0, [(100, 0)]), (4, [(0, 1)]), (6, [(1, 0)]), (9, [(0, 100)])]
        self.assertEqual(corners(slices, 4, 9), [(0, 0), (3, 0), (3, 2), (0, 2)])
        self.assertEqual(corners(slices, 5, 7), [(0, 0), (1, 0), (1, 1), (0, 1)])
        self.assertEqual(corners(slices, 4, 6), [(0, 0), (0, 2)])

    def test_first_is_lowest_then_furthest_west(self):
        slices = [(0, [(-3, -2), (5, -2), (0, 4)]), (2, [(1, -7), (-1, -7)])]
        self.assertEqual(corners(slices, 0, 3)[0], (-7, -11))
        self.assertEqual(corners(slices, 0, 3)[1], (11, -11))


class AgainstReachTest(unittest.TestCase):
    def test_every_place_round_each_corner(self):
        source = random.Random(21)
        seen = {0: 0, 1: 0}
        for k in range(60):
            slices = draw_slices(source, 4, 4, 3, 8)
            t = source.randint(0, 8)
            u = t + source.randint(0, 8)
            found = corners(slices, t, u)
            places = sorted({(x + p, y + q) for x, y in found for p in (-1, 0, 1) for q in (-1, 0, 1)})
            told = ask_of(slices, *[reach(x, y, t, u) for x, y in places])
            for place, numbers in zip(places, told):
                with self.subTest(slices=slices, t=t, u=u, place=place):
                    self.assertEqual(numbers, [int(is_within(found, place))])
                    if place in found:
                        self.assertEqual(numbers, [1])
                seen[numbers[0]] += 1
        self.assertGreater(min(seen.values()), 200)

    def test_every_place_about(self):
        slices = [(0, [(1, 0), (-1, 2)]), (2, [(0, 0)]), (3, [(-1, -1)]), (5, SQUARE)]
        for t, u in ((0, 5), (1, 6), (0, 2), (3, 5), (4, 7)):
            found = corners(slices, t, u)
            places = [(x, y) for x in range(-9, 10) for y in range(-9, 10)]
            told = ask_of(slices, *[reach(x, y, t, u) for x, y in places])
            self.assertEqual(told, [[int(is_within(found, place))] for place in places])


class DrawnTest(unittest.TestCase):
    def test_against_sums(self):
        source = random.Random(22)
        sizes = set()
        for k in range(300):
            slices = draw_slices(source, 4, 4, source.choice([1, 2, 5]), 8)
            t = source.randint(0, 9)
            u = t + source.randint(0, 9)
            with self.subTest(slices=slices, t=t, u=u):
                found = corners(slices, t, u)
                self.assertEqual(found, set_by_sums(slices, t, u))
            sizes.add(len(found))
        self.assertTrue({1, 2, 3, 4, 5, 6, 7, 8} <= sizes, sizes)

    def test_large(self):
        source = random.Random(23)
        most = 0
        for k in range(25):
            slices = draw_slices(source, 12, 24, source.choice([20, 1000]), LAST_TIME)
            t, u = sorted([source.randint(0, LAST_TIME), source.choice([LAST_TIME, source.randint(0, LAST_TIME)])])
            found = corners(slices, t, u)
            most = max(most, len(found))
            with self.subTest(slices=slices, t=t, u=u):
                self.check_shape(found)
                self.check_supports(source, slices, t, u, found)
        self.assertGreater(most, 40)

    def check_shape(self, found):
        self.assertEqual(found[0], min(found, key=lambda corner: (corner[1], corner[0])))
        if len(found) > 2:
            following = found[1:] + found[:1]
            last = following[1:] + following[:1]
            for p, q, r in zip(found, following, last):
                self.assertGreater(bend(p, q, r), 0)

    def check_supports(self, source, slices, t, u, found):
        """How far the set goes, square to its own sides and in directions that are drawn."""
        looked = [(y, -x) for x, y in sides(found)] + [(1, 0), (0, 1), (-1, 0), (0, -1)]
        looked += [(source.randint(-99, 99), source.randint(-99, 99)) for k in range(100)]
        for a, b in looked:
            self.assertEqual(max(a * x + b * y for x, y in found), set_support(slices, t, u, a, b))

    def test_twelve_slices_with_many_corners(self):
        slices = round_slices()
        found = corners(slices, 0, LAST_TIME)
        self.assertGreater(len(found), 200)
        self.check_shape(found)
        self.check_supports(random.Random(24), slices, 0, LAST_TIME, found)
        self.assertEqual(ask_of(slices, *[set_call(0, LAST_TIME)] * 80), ask_of(slices, set_call(0, LAST_TIME)) * 80)

    def test_ends_of_the_ranges(self):
        far = 1000 * LAST_TIME
        self.assertEqual(corners([(0, [(1000 * x, 1000 * y) for x, y in SQUARE])], 0, LAST_TIME),
                         [(-far, -far), (far, -far), (far, far), (-far, far)])
        self.assertEqual(corners([(0, [(1000, 0)]), (LAST_TIME, [(0, 1000)])], 0, LAST_TIME), [(0, 0), (far, 0)])


class RefusalTest(unittest.TestCase):
    def test_out_of_range(self):
        made = slice_call(0, *SQUARE)
        for bad in (-1, -HUGE):
            self.assertEqual(ask(made, set_call(bad, 9), set_call(bad, bad))[1:], [[-1], [-1]])
        for bad in (LAST_TIME + 1, HUGE):
            self.assertEqual(ask(made, set_call(0, bad), set_call(bad, bad))[1:], [[-1], [-1]])
        told = ask(made, set_call(0, LAST_TIME), set_call(0, 0), set_call(LAST_TIME, LAST_TIME))
        self.assertEqual([numbers[0] for numbers in told[1:]], [4, 1, 1])

    def test_end_before_the_beginning(self):
        told = ask_of([(0, [(1, 0)])], set_call(5, 4), set_call(5, 5), set_call(5, 6), set_call(LAST_TIME, 0))
        self.assertEqual(told, [[-1], [1, 0, 0], [2, 0, 0, 1, 0], [-1]])

    def test_no_slice_at_all(self):
        self.assertEqual(ask(set_call(0, 0), set_call(0, LAST_TIME)), [[-4], [-4]])

    def test_in_order(self):
        self.assertEqual(ask(set_call(-1, 0), set_call(5, 4), set_call(0, LAST_TIME + 1), set_call(-1, -1)), [[-1]] * 4)

    def test_changes_nothing(self):
        good = [4, 0, 0, 4, 0, 4, 5, 0, 5]
        told = ask_of(EAST_THEN_NORTH, set_call(0, 9), set_call(9, 0), set_call(0, HUGE), set_call(0, 9),
                      reach(FURTHEST, 0, 0, 9), set_call(0, 9))
        self.assertEqual(told, [good, [-1], [-1], good, [0], good])
        self.assertEqual(ask_last(set_call(0, 9), *[slice_call(0, (1, 0))], set_call(0, 9)), [2, 0, 0, 9, 0])


if __name__ == "__main__":
    unittest.main()
