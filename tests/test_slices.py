"""The calls begin, slice and slices."""

import unittest

from tests.helper import ALL, BEGIN, FASTEST, HUGE, LAST_TIME, SLICES, ask, ask_last, bound, check, course, hull
from tests.helper import inside, least, reach, set_call, slice_call, slice_numbers, speed, support, way

TWELVE = [slice_call(10 * k, (k, 1)) for k in range(12)]


class BeginTest(unittest.TestCase):
    def test_answers_nought(self):
        self.assertEqual(ask(BEGIN), [[0]])
        self.assertEqual(ask(slice_call(0, (1, 0)), BEGIN, BEGIN), [[1], [0], [0]])

    def test_no_slices_any_more(self):
        told = ask(slice_call(0, (1, 0)), slice_call(5, (1, 0)), least(3, 0, 0), BEGIN,
                   hull(0), inside(0), support(0, 1, 1), least(0, 0, 0), way(0, 0, 0), reach(0, 0, 0, 0))
        self.assertEqual(told[4:], [[-2], [-2], [-2], [-4], [-4], [-4]])
        told = ask(slice_call(0, (1, 0)), slice_call(5, (1, 0)), bound((0, 0), (3, 0)), ALL, BEGIN,
                   set_call(0, 0), course(0, (0, 0), (0, 0)), ALL, bound((0, 0), (0, 0)), check(0, (0, 0, 0)),
                   speed(0, 1, 1), SLICES)
        self.assertEqual(told[5:], [[-4], [-4], [-4], [-4], [-4], [-2], [0]])

    def test_slices_anew(self):
        told = ask(slice_call(0, (1, 0)), slice_call(5, (1, 0)), least(9, 0, 0), BEGIN,
                   slice_call(5, (1, 0)), slice_call(0, (0, 3)), hull(0), hull(1), least(0, 9, 0), least(9, 0, 0))
        self.assertEqual(told[4:], [[-2], [1], [2, 0, 0, 0, 3], [-2], [1, 0, 0, 1, 3, 51, 47, 49], [0, 1, 0]])


class SliceTest(unittest.TestCase):
    def test_counts_slices(self):
        self.assertEqual(ask(*TWELVE), [[k + 1] for k in range(12)])

    def test_none_at_the_beginning(self):
        self.assertEqual(ask_last(hull(0)), [-2])

    def test_last_times_within(self):
        self.assertEqual(ask(slice_call(0, (1, 0)), slice_call(1, (1, 0)), slice_call(LAST_TIME, (1, 0))),
                         [[1], [2], [3]])

    def test_time_out_of_range(self):
        for t in (-1, LAST_TIME + 1, HUGE, -HUGE):
            with self.subTest(t=t):
                self.assertEqual(ask_last(slice_call(t, (1, 0))), [-1])
                self.assertEqual(ask_last(slice_call(0, (1, 0)), slice_call(t, (1, 0))), [-1])

    def test_length_odd(self):
        for count in (1, 3, 47, 49, 59):
            with self.subTest(count=count):
                self.assertEqual(ask(slice_numbers(0, [1] * count), hull(0)), [[-1], [-2]])

    def test_how_many_velocities(self):
        self.assertEqual(ask_last(slice_numbers(0, [])), [-1])
        self.assertEqual(ask_last(slice_numbers(0, [1] * 2)), [1])
        self.assertEqual(ask_last(slice_numbers(0, [1] * 48)), [1])
        self.assertEqual(ask_last(slice_numbers(0, [1] * 50)), [-1])
        self.assertEqual(ask_last(slice_numbers(0, [1] * 60)), [-1])

    def test_range_of_velocities(self):
        for good in (FASTEST, -FASTEST):
            self.assertEqual(ask_last(slice_call(0, (good, good))), [1])
        for bad in (FASTEST + 1, -FASTEST - 1, HUGE, -HUGE):
            with self.subTest(bad=bad):
                self.assertEqual(ask_last(slice_call(0, (bad, 0))), [-1])
                self.assertEqual(ask_last(slice_call(0, (0, bad))), [-1])
                self.assertEqual(ask_last(slice_call(0, (1, 1), (2, 2), (0, bad))), [-1])

    def test_first_not_at_nought(self):
        self.assertEqual(ask_last(slice_call(1, (1, 0))), [-2])
        self.assertEqual(ask_last(slice_call(LAST_TIME, (1, 0))), [-2])

    def test_not_later(self):
        two = [slice_call(0, (1, 0)), slice_call(5, (1, 0))]
        self.assertEqual([ask_last(*two, slice_call(t, (1, 0))) for t in (0, 4, 5, 6)], [[-2], [-2], [-2], [3]])
        self.assertEqual(ask_last(slice_call(0, (1, 0)), slice_call(0, (1, 0))), [-2])

    def test_there_are_twelve(self):
        self.assertEqual(ask_last(*TWELVE, slice_call(111, (1, 0))), [-3])
        self.assertEqual(ask_last(*TWELVE, slice_call(LAST_TIME, (1, 0))), [-3])
        self.assertEqual(ask_last(*TWELVE, BEGIN, slice_call(0, (1, 0))), [1])

    def test_refusals_in_order(self):
        self.assertEqual(ask_last(slice_call(-1, (1, 0))), [-1])
        self.assertEqual(ask_last(slice_call(3, (FASTEST + 1, 0))), [-1])
        self.assertEqual(ask_last(slice_numbers(3, [])), [-1])
        self.assertEqual(ask_last(*TWELVE, slice_call(LAST_TIME + 1, (1, 0))), [-1])
        self.assertEqual(ask_last(*TWELVE, slice_numbers(500, [1])), [-1])
        self.assertEqual(ask_last(*TWELVE, slice_call(110, (1, 0))), [-2])
        self.assertEqual(ask_last(*TWELVE, slice_call(0, (FASTEST + 1, 0))), [-1])

    def test_refusal_changes_nothing(self):
        made = [slice_call(0, (1, 0)), slice_call(5, (0, 1))]
        asked = [hull(0), hull(1), hull(2), least(5, 3, 0), way(5, 3, 0)]
        refused = [slice_call(-1, (9, 9)), slice_numbers(9, [9, 9, 9]), slice_call(9, (9, FASTEST + 1)),
                   slice_call(5, (9, 9)), slice_call(0, (9, 9))]
        told = ask(*made, *asked, *refused, *asked, slice_call(6, (2, 2)))
        self.assertEqual(told[7:12], [[-1], [-1], [-1], [-2], [-2]])
        self.assertEqual(told[12:17], told[2:7])
        self.assertEqual(told[17], [3])

    def test_thirteenth_changes_nothing(self):
        asked = [hull(11), hull(12), least(400, 400, 0)]
        told = ask(*TWELVE, *asked, slice_call(200, (1000, 1000)), *asked)
        self.assertEqual(told[15], [-3])
        self.assertEqual(told[16:], told[12:15])


class SlicesTest(unittest.TestCase):
    def test_none(self):
        self.assertEqual(ask(SLICES), [[0]])

    def test_some(self):
        told = ask(slice_call(0, (1, 0)), SLICES, slice_call(7, (1, 0)), SLICES, slice_call(LAST_TIME, (1, 0)), SLICES)
        self.assertEqual(told[1::2], [[1, 0], [2, 0, 7], [3, 0, 7, LAST_TIME]])
        self.assertEqual(ask_last(*TWELVE, SLICES), [12] + [10 * k for k in range(12)])

    def test_after_begin(self):
        told = ask(slice_call(0, (1, 0)), slice_call(7, (1, 0)), BEGIN, SLICES, slice_call(0, (1, 0)), SLICES)
        self.assertEqual(told[3::2], [[0], [1, 0]])

    def test_after_a_refusal(self):
        self.assertEqual(ask(slice_call(3, (1, 0)), SLICES, slice_numbers(0, []), SLICES)[1::2], [[0], [0]])
        refused = [slice_call(7, (1, 0)), slice_call(-1, (1, 0)), slice_numbers(8, [1]), slice_call(8, (FASTEST + 1, 0))]
        for call in refused:
            told = ask(slice_call(0, (1, 0)), slice_call(7, (1, 0)), call, SLICES)
            self.assertLess(told[2][0], 0)
            self.assertEqual(told[3], [2, 0, 7])
        self.assertEqual(ask_last(*TWELVE, slice_call(500, (1, 0)), SLICES), [12] + [10 * k for k in range(12)])

    def test_asking_changes_nothing(self):
        asked = [hull(0), least(1, 0, 0), set_call(0, 9), ALL, bound((0, 0), (1, 0)), speed(0, 1, 0), SLICES]
        told = ask(slice_call(0, (1, 0)), slice_call(7, (0, 1)), SLICES, *asked, SLICES)
        self.assertEqual([told[2], told[-2], told[-1]], [[2, 0, 7]] * 3)


if __name__ == "__main__":
    unittest.main()
