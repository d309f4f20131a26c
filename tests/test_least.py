"""The call least: the slice of arrival, the proof, the time, and never."""

import random
import unittest

from tests.helper import FASTEST, FURTHEST, HUGE, LAST_TIME, ask, ask_last, ask_of, draw_slices, hull
from tests.helper import least, read_least, slice_call, text
from tests.oracle import least_by_words

EAST_THEN_NORTH = [(0, [(1, 0)]), (4, [(0, 1)])]
SQUARE = [(-1, -1), (1, -1), (1, 1), (-1, 1)]
DIAMOND = [(0, -1), (1, 0), (0, 1), (-1, 0)]
# Corners all round, as many as a slice may have, with numbers of every size.
ROUND = [(1000, 0), (966, 259), (866, 500), (707, 707), (500, 866), (259, 966)]
ROUND = ROUND + [(-y, x) for x, y in ROUND]
ROUND = ROUND + [(-x, -y) for x, y in ROUND]


def answer(number, proof, time):
    return [1, number, *proof, *text(time)]


class OneSliceTest(unittest.TestCase):
    def test_straight_on(self):
        told = ask_of([(0, [(1, 0)])], least(7, 0, 0), least(7, 0, 5), least(1, 0, LAST_TIME))
        self.assertEqual(told, [answer(0, (1, 0), "7/1"), answer(0, (1, 0), "12/1"), answer(0, (1, 0), "1000001/1")])

    def test_no_whole_number(self):
        told = ask_of([(0, [(3, 0)])], least(7, 0, 0), least(7, 0, 2), least(6, 0, 2), least(1, 0, 0))
        times = ["7/3", "13/3", "4/1", "1/3"]
        self.assertEqual(told, [answer(0, (1, 0), time) for time in times])

    def test_lowest_terms_of_the_time(self):
        self.assertEqual(ask_of([(0, [(6, 0)])], least(4, 0, 0), least(9, 0, 1)),
                         [answer(0, (1, 0), "2/3"), answer(0, (1, 0), "5/2")])

    def test_lowest_terms_of_the_proof(self):
        self.assertEqual(ask_of([(0, [(4, 2)])], least(8, 4, 0), least(8, 0, 0), least(0, 2, 0), least(-4, -2, 0)),
                         [answer(0, (2, 1), "2/1"), [0, 1, -2], [0, -1, 2], [0, -2, -1]])

    def test_between_velocities(self):
        self.assertEqual(ask_of([(0, [(3, 0), (0, 3)])], least(2, 2, 0), least(1, 0, 0), least(5, 1, 0)),
                         [answer(0, (1, 1), time) for time in ("4/3", "1/3", "2/1")])

    def test_with_rest(self):
        self.assertEqual(ask_of([(0, [(4, 1), (1, 4)])], least(5, 5, 0), least(4, 1, 0), least(8, 32, 0)),
                         [answer(0, (1, 1), "2/1"), answer(0, (1, 1), "1/1"), answer(0, (1, 1), "8/1")])


class SeveralSlicesTest(unittest.TestCase):
    def test_each_slice_adds(self):
        self.assertEqual(ask_of(EAST_THEN_NORTH, least(4, 4, 0), least(3, 4, 0), least(0, 1, 0)),
                         [answer(1, (0, 1), "8/1"), answer(1, (0, 1), "8/1"), answer(1, (0, 1), "5/1")])

    def test_just_at_a_slices_end(self):
        slices = [(0, [(1, 0)]), (4, [(2, 0)]), (9, [(3, 0)])]
        told = ask_of(slices, *[least(x, 0, 0) for x in (3, 4, 5, 14, 15, 17)])
        places = [(0, "3/1"), (0, "4/1"), (1, "9/2"), (1, "9/1"), (2, "28/3"), (2, "10/1")]
        self.assertEqual(told, [answer(number, (1, 0), time) for number, time in places])

    def test_begins_within_a_later_slice(self):
        slices = [(0, [(9, 0)]), (4, [(2, 0)]), (9, [(3, 0)])]
        told = ask_of(slices, *[least(8, 0, t) for t in (3, 4, 5, 7, 8, 9, 10, LAST_TIME)])
        places = [(0, "35/9"), (1, "8/1"), (1, "9/1"), (2, "31/3"), (2, "11/1"), (2, "35/3"), (2, "38/3"),
                  (2, "3000008/3")]
        self.assertEqual(told, [answer(number, (1, 0), time) for number, time in places])

    def test_passed_over_at_its_very_end(self):
        self.assertEqual(ask_of(EAST_THEN_NORTH, least(1, 0, 3), least(1, 0, 4), least(0, 1, 4)),
                         [answer(0, (1, 0), "4/1"), [0, 1, 0], answer(1, (0, 1), "5/1")])

    def test_waits_for_the_wind(self):
        slices = [(0, [(0, 0)]), (10, [(0, -1)]), (20, [(5, 0)])]
        self.assertEqual(ask_of(slices, least(1, 0, 0), least(1, -10, 0), least(0, -3, 0), least(0, -11, 0)),
                         [answer(2, (1, 0), "101/5"), answer(2, (1, 0), "101/5"), answer(1, (0, -1), "13/1"),
                          [0, 0, -1]])

    def test_new_slice_is_looked_at(self):
        told = ask(slice_call(0, (1, 0)), least(0, 2, 0), slice_call(4, (0, 1)), least(0, 2, 0), slice_call(5, (0, 9)),
                   least(0, 2, 0))
        self.assertEqual(told[1::2], [[0, 0, 1], answer(1, (0, 1), "6/1"), answer(2, (0, 1), "46/9")])


class NothingToGoTest(unittest.TestCase):
    def test_there_at_once(self):
        told = ask_of(EAST_THEN_NORTH, *[least(0, 0, t) for t in (0, 3, 4, 5, LAST_TIME)])
        places = [(0, "0/1"), (0, "3/1"), (1, "4/1"), (1, "5/1"), (1, "1000000/1")]
        self.assertEqual(told, [answer(number, (0, 0), time) for number, time in places])

    def test_at_rest(self):
        self.assertEqual(ask_of([(0, [(0, 0)])], least(0, 0, 7)), [answer(0, (0, 0), "7/1")])


class NeverTest(unittest.TestCase):
    def test_first_such_direction(self):
        corner = [(0, [(1, 0), (0, 1)])]
        self.assertEqual(ask_of(corner, least(-1, -1, 0), least(-1, 0, 0), least(9, -1, 0), least(-1, 9, 0)),
                         [[0, 0, -1], [0, -1, 0], [0, 0, -1], [0, -1, 0]])

    def test_at_rest_the_axes_in_order(self):
        asked = [least(3, 3, 0), least(-3, 3, 0), least(-3, -3, 0), least(3, -3, 0), least(0, -3, 0), least(-3, 0, 0)]
        self.assertEqual(ask_of([(0, [(0, 0)])], *asked),
                         [[0, 1, 0], [0, 0, 1], [0, -1, 0], [0, 1, 0], [0, 0, -1], [0, -1, 0]])

    def test_on_a_line_its_sides_then_its_ends_then_the_axes(self):
        line = [(0, [(1, 1)])]
        asked = [least(1, 0, 0), least(0, 1, 0), least(-1, -1, 0), least(-2, -1, 0), least(2, 1, 0)]
        self.assertEqual(ask_of(line, *asked), [[0, 1, -1], [0, -1, 1], [0, -1, -1], [0, -1, 1], [0, 1, -1]])

    def test_line_from_its_first_corner(self):
        self.assertEqual(ask_of([(0, [(-1, 0)])], least(5, 0, 0), least(5, 5, 0), least(-5, -5, 0), least(-5, 0, 0)),
                         [[0, 1, 0], [0, 0, 1], [0, 0, -1], answer(0, (-1, 0), "5/1")])

    def test_longer_than_any_time_only_in_the_last(self):
        slices = [(0, [(0, 0)]), (4, [(1, 0)])]
        self.assertEqual(ask_of(slices, least(1, 0, 0), least(0, 1, 0)), [answer(1, (1, 0), "5/1"), [0, 0, 1]])

    def test_earlier_slices_may_help(self):
        self.assertEqual(ask_of(EAST_THEN_NORTH, least(4, 1, 0), least(4, 1, 1), least(5, 1, 0)),
                         [answer(1, (0, 1), "5/1"), [0, 1, 0], [0, 1, 0]])

    def test_before_a_direction_that_takes_long(self):
        self.assertEqual(ask_of([(0, [(1, 0), (-1, 0), (0, 1)])], least(FURTHEST, -1, 0)), [[0, 0, -1]])
        self.assertEqual(ask_of([(0, [(1, 0), (0, 1), (0, -1)])], least(-1, FURTHEST, 0)), [[0, -1, 0]])


class ProofTest(unittest.TestCase):
    def test_first_of_those_that_take_as_long(self):
        self.assertEqual(ask_of([(0, SQUARE)], least(5, 5, 0), least(-5, 5, 0), least(5, -5, 0), least(-5, -5, 0)),
                         [answer(0, proof, "5/1") for proof in ((1, 0), (0, 1), (0, -1), (0, -1))])
        self.assertEqual(ask_of([(0, DIAMOND)], least(5, 0, 0), least(0, 5, 0), least(-5, 0, 0), least(0, -5, 0)),
                         [answer(0, proof, "5/1") for proof in ((1, -1), (1, 1), (-1, 1), (1, -1))])

    def test_takes_longest(self):
        self.assertEqual(ask_of([(0, SQUARE)], least(4, 5, 0), least(-5, 4, 0), least(5, 4, 0)),
                         [answer(0, proof, "5/1") for proof in ((0, 1), (-1, 0), (1, 0))])

    def test_directions_of_a_slice_that_is_over(self):
        self.assertEqual(ask_of([(0, DIAMOND), (5, SQUARE)], least(3, 3, 5), least(3, 2, 5)),
                         [answer(1, (1, 1), "8/1"), answer(1, (1, 0), "8/1")])

    def test_directions_of_a_slice_that_has_not_begun(self):
        self.assertEqual(ask_of([(0, SQUARE), (5, DIAMOND)], least(3, 3, 0)), [answer(0, (1, 0), "3/1")])

    def test_earlier_slice_first(self):
        slices = [(0, DIAMOND), (2, SQUARE)]
        self.assertEqual(ask_of(slices, least(5, 3, 0), least(3, 5, 0)), [answer(1, (1, 1), "5/1")] * 2)
        slices = [(0, SQUARE), (2, DIAMOND)]
        self.assertEqual(ask_of(slices, least(5, 2, 0), least(2, -5, 0)),
                         [answer(1, (1, 0), "5/1"), answer(1, (0, -1), "5/1")])

    def test_word_by_word(self):
        source = random.Random(5)
        kinds = set()
        for k in range(600):
            slices = draw_slices(source, 4, 5, source.choice([1, 2, 3]), 8)
            x, y, t = source.randint(-9, 9), source.randint(-9, 9), source.randint(0, 10)
            with self.subTest(slices=slices, x=x, y=y, t=t):
                told = read_least(ask_of(slices, least(x, y, t))[0])
                self.assertEqual(told, least_by_words(slices, x, y, t))
            kinds.add((told[0], told[2] is not None and told[2].denominator > 1))
        self.assertGreaterEqual(len(kinds), 8)


class EndsOfRangesTest(unittest.TestCase):
    def test_slowest(self):
        slow = [(0, [(1, 0), (-1, 0), (0, 1), (0, -1)])]
        for x in (FURTHEST, -FURTHEST):
            for y in (FURTHEST, -FURTHEST):
                told = read_least(ask_of(slow, least(x, y, LAST_TIME))[0])
                self.assertEqual((told[0], told[2]), (0, 3000000))

    def test_twelve_slices_of_twenty_four_velocities(self):
        slices = []
        for k in range(12):
            velocities = [(x // (k + 1), y // (12 - k)) for x, y in ROUND]
            slices.append((LAST_TIME if k == 11 else 150 * k, velocities))
        self.assertEqual(ask_of(slices, hull(0))[0][0], 24)
        asked = [(x, y, t) for x, y in ((FURTHEST, FURTHEST), (-FURTHEST, FURTHEST), (-FURTHEST, -FURTHEST),
                                       (FURTHEST, -FURTHEST), (FURTHEST, 0), (1, -1))
                 for t in (0, 1000, 1649, 1650, LAST_TIME - 1, LAST_TIME)]
        told = ask_of(slices, *[least(x, y, t) for x, y, t in asked])
        for (x, y, t), numbers in zip(asked, told):
            with self.subTest(x=x, y=y, t=t):
                self.assertEqual(read_least(numbers), least_by_words(slices, x, y, t))


class RefusalTest(unittest.TestCase):
    def test_out_of_range(self):
        made = slice_call(0, (1, 0), (-1, 0), (0, 1), (0, -1))
        for bad in (FURTHEST + 1, -FURTHEST - 1, HUGE, -HUGE):
            self.assertEqual(ask(made, least(bad, 0, 0), least(0, bad, 0))[1:], [[-1], [-1]])
        for bad in (-1, LAST_TIME + 1, HUGE, -HUGE):
            self.assertEqual(ask_last(made, least(0, 0, bad)), [-1])
        for good in (FURTHEST, -FURTHEST):
            told = ask(made, least(good, 0, 0), least(0, good, 0), least(good, good, LAST_TIME))
            self.assertEqual([numbers[0] for numbers in told], [1, 1, 1, 1])

    def test_no_slice_at_all(self):
        self.assertEqual(ask_last(least(0, 0, 0)), [-4])
        self.assertEqual(ask_last(least(FURTHEST, -FURTHEST, LAST_TIME)), [-4])

    def test_in_order(self):
        self.assertEqual(ask(least(FURTHEST + 1, 0, 0), least(0, -FURTHEST - 1, 0), least(0, 0, -1)), [[-1]] * 3)

    def test_changes_nothing(self):
        told = ask(least(0, 0, 0), slice_call(0, (FASTEST, 0)), least(9, 0, 0), least(9, 0, -1), least(9, 0, 0))
        self.assertEqual(told, [[-4], [1], answer(0, (1, 0), "9/1000"), [-1], answer(0, (1, 0), "9/1000")])


if __name__ == "__main__":
    unittest.main()
