"""The calls begin and slice."""

import unittest

from tests.helper import BEGIN, FASTEST, HUGE, LAST_TIME, ask, ask_last, hull, inside, least, reach
from tests.helper import slice_call, slice_numbers, support, way

TWELVE = [slice_call(10 * k, (k, 1)) for k in range(12)]


class BeginTest(unittest.TestCase):
    def test_answers_nought(self):
        self.assertEqual(ask(BEGIN), [[0]])
        self.assertEqual(ask(slice_call(0, (1, 0)), BEGIN, BEGIN), [[1], [0], [0]])

    def test_no_slices_any_more(self):
        told = ask(slice_call(0, (1, 0)), slice_call(5, (1, 0)), least(3, 0, 0), BEGIN,
                   hull(0), inside(0), support(0, 1, 1), least(0, 0, 0), way(0, 0, 0), reach(0, 0, 0, 0))
        self.assertEqual(told[4:], [[-2], [-2], [-2], [-4], [-4], [-4]])

    def test_slices_anew(self):
        told = ask(slice_call(0, (1, 0)), slice_call(5, (1, 0)), least(9, 0, 0), BEGIN,
                   slice_call(5, (1, 0)), slice_call(0, (0, 3)), hull(0), hull(1), least(0, 9, 0), least(9, 0, 0))
        self.assertEqual(told[4:], [[-2], [1], [2, 0, 0, 0, 3], [-2], [1, 0, 0, 1, 3, 51, 47, 49], [0, 1, 0]])


class SliceTest(unittest.TestCase):
    def test_counts_slices(self):
        self.assertEqual(ask(*TWELVE), [[k + 1] for k in range(12)])

    def test_none_at_the_beginning(self):
        self.assertEqual(ask_last(hull(0)), [-2])

    def test_last_times_within(self):
        self.assertEqual(ask(slice_call(0, (1, 0)), slice_call(1, (1, 0)), slice_call(LAST_TIME, (1, 0))),
                         [[1], [2], [3]])

    def test_time_out_of_range(self):
        for t in (-1, LAST_TIME + 1, HUGE, -HUGE):
            with self.subTest(t=t):
                self.assertEqual(ask_last(slice_call(t, (1, 0))), [-1])
                self.assertEqual(ask_last(slice_call(0, (1, 0)), slice_call(t, (1, 0))), [-1])

    def test_length_odd(self):
        for count in (1, 3, 47, 49, 59):
            with self.subTest(count=count):
                self.assertEqual(ask(slice_numbers(0, [1] * count), hull(0)), [[-1], [-2]])

    def test_how_many_velocities(self):
        self.assertEqual(ask_last(slice_numbers(0, [])), [-1])
        self.assertEqual(ask_last(slice_numbers(0, [1] * 2)), [1])
        self.assertEqual(ask_last(slice_numbers(0, [1] * 48)), [1])
        self.assertEqual(ask_last(slice_numbers(0, [1] * 50)), [-1])
        self.assertEqual(ask_last(slice_numbers(0, [1] * 60)), [-1])

    def test_range_of_velocities(self):
        for good in (FASTEST, -FASTEST):
            self.assertEqual(ask_last(slice_call(0, (good, good))), [1])
        for bad in (FASTEST + 1, -FASTEST - 1, HUGE, -HUGE):
            with self.subTest(bad=bad):
                self.assertEqual(ask_last(slice_call(0, (bad, 0))), [-1])
                self.assertEqual(ask_last(slice_call(0, (0, bad))), [-1])
                self.assertEqual(ask_last(slice_call(0, (1, 1), (2, 2), (0, bad))), [-1])

    def test_first_not_at_nought(self):
        self.assertEqual(ask_last(slice_call(1, (1, 0))), [-2])
        self.assertEqual(ask_last(slice_call(LAST_TIME, (1, 0))), [-2])

    def test_not_later(self):
        two = [slice_call(0, (1, 0)), slice_call(5, (1, 0))]
        self.assertEqual([ask_last(*two, slice_call(t, (1, 0))) for t in (0, 4, 5, 6)], [[-2], [-2], [-2], [3]])
        self.assertEqual(ask_last(slice_call(0, (1, 0)), slice_call(0, (1, 0))), [-2])

    def test_there_are_twelve(self):
        self.assertEqual(ask_last(*TWELVE, slice_call(111, (1, 0))), [-3])
        self.assertEqual(ask_last(*TWELVE, slice_call(LAST_TIME, (1, 0))), [-3])
        self.assertEqual(ask_last(*TWELVE, BEGIN, slice_call(0, (1, 0))), [1])

    def test_refusals_in_order(self):
        self.assertEqual(ask_last(slice_call(-1, (1, 0))), [-1])
        self.assertEqual(ask_last(slice_call(3, (FASTEST + 1, 0))), [-1])
        self.assertEqual(ask_last(slice_numbers(3, [])), [-1])
        self.assertEqual(ask_last(*TWELVE, slice_call(LAST_TIME + 1, (1, 0))), [-1])
        self.assertEqual(ask_last(*TWELVE, slice_numbers(500, [1])), [-1])
        self.assertEqual(ask_last(*TWELVE, slice_call(110, (1, 0))), [-2])
        self.assertEqual(ask_last(*TWELVE, slice_call(0, (FASTEST + 1, 0))), [-1])

    def test_refusal_changes_nothing(self):
        made = [slice_call(0, (1, 0)), slice_call(5, (0, 1))]
        asked = [hull(0), hull(1), hull(2), least(5, 3, 0), way(5, 3, 0)]
        refused = [slice_call(-1, (9, 9)), slice_numbers(9, [9, 9, 9]), slice_call(9, (9, FASTEST + 1)),
                   slice_call(5, (9, 9)), slice_call(0, (9, 9))]
        told = ask(*made, *asked, *refused, *asked, slice_call(6, (2, 2)))
        self.assertEqual(told[7:12], [[-1], [-1], [-1], [-2], [-2]])
        self.assertEqual(told[12:17], told[2:7])
        self.assertEqual(told[17], [3])

    def test_thirteenth_changes_nothing(self):
        asked = [hull(11), hull(12), least(400, 400, 0)]
        told = ask(*TWELVE, *asked, slice_call(200, (1000, 1000)), *asked)
        self.assertEqual(told[15], [-3])
        self.assertEqual(told[16:], told[12:15])


if __name__ == "__main__":
    unittest.main()
