"""The calls course and bound: rows of places."""

import random
import unittest
from fractions import Fraction

from tests.helper import FURTHEST, HUGE, LAST_TIME, ask, ask_last, ask_of, bound, bound_numbers, course, course_numbers
from tests.helper import draw_places, draw_slices, least, read_bound, read_course, read_least, round_slices
from tests.helper import slice_call, text
from tests.oracle import bound_by_words, course_by_words, joined, least_by_programming

EAST_THEN_NORTH = [(0, [(1, 0)]), (4, [(0, 1)])]
SQUARE = [(-1, -1), (1, -1), (1, 1), (-1, 1)]
FOUR_WAYS = [(1, 0), (-1, 0), (0, 1), (0, -1)]


def times(slices, t, *places):
    return read_course(ask_of(slices, course(t, *places))[0])


def bound_of(slices, *places):
    return read_bound(ask_of(slices, bound(*places))[0])


class CourseTest(unittest.TestCase):
    def test_numbers_as_they_stand(self):
        self.assertEqual(ask_of([(0, [(2, 0), (0, 3)])], course(1, (5, 5), (6, 5), (6, 6), (8, 9))),
                         [[3, *text("3/2"), *text("11/6"), *text("23/6")]])

    def test_the_same_place_twice(self):
        self.assertEqual(times(EAST_THEN_NORTH, 3, (7, 7), (7, 7)), [3])
        self.assertEqual(times([(0, [(0, 0)])], 5, (7, 7), (7, 7), (7, 7)), [5, 5])
        self.assertEqual(times([(0, [(2, 0)])], 0, (0, 0), (1, 0), (1, 0), (2, 0)),
                         [Fraction(1, 2), Fraction(1, 2), 1])

    def test_places_not_ways(self):
        self.assertEqual(times([(0, FOUR_WAYS)], 0, (9, 9), (9, 12), (5, 12), (0, 0)), [3, 7, 24])

    def test_one_leg_is_a_way(self):
        source = random.Random(30)
        for k in range(100):
            slices = draw_slices(source, 4, 4, 3, 8)
            x, y, t = source.randint(-9, 9), source.randint(-9, 9), source.randint(0, 9)
            told = ask_of(slices, least(x, y, t), course(t, (5, -4), (5 + x, y - 4)))
            time = read_least(told[0])[2]
            self.assertEqual(read_course(told[1]), [] if time is None else [time])

    def test_legs_over_several_slices(self):
        slices = [(0, [(1, 0)]), (4, [(2, 0)]), (9, [(3, 0)]), (12, [(1, 0)])]
        self.assertEqual(times(slices, 0, (0, 0), (13, 0), (24, 0)), [Fraction(17, 2), 13])
        self.assertEqual(times(slices, 2, (0, 0), (12, 0), (22, 0), (23, 0)), [9, 13, 14])

    def test_begins_at_no_whole_number(self):
        slices = [(0, [(3, 0)]), (4, [(0, 7)])]
        self.assertEqual(times(slices, 0, (0, 0), (7, 0), (12, 0), (12, 1)), [Fraction(7, 3), 4, Fraction(29, 7)])
        self.assertEqual(times(slices, 1, (0, 0), (8, 0), (8, 2)), [Fraction(11, 3), Fraction(30, 7)])
        self.assertEqual(times(slices, 1, (0, 0), (8, 0), (10, 0)), [Fraction(11, 3)])
        self.assertEqual(times(slices, 4, (0, 0), (0, 1), (0, 2), (0, 7)), [Fraction(29, 7), Fraction(30, 7), 5])

    def test_part_of_a_second_is_left_of_a_slice(self):
        slices = [(0, [(3, 0)]), (4, [(2, 0)])]
        self.assertEqual(times(slices, 0, (0, 0), (11, 0), (12, 0), (13, 0)), [Fraction(11, 3), 4, Fraction(9, 2)])
        self.assertEqual(times(slices, 0, (0, 0), (11, 0), (13, 0)), [Fraction(11, 3), Fraction(9, 2)])

    def test_arrives_just_at_a_slices_end(self):
        self.assertEqual(times(EAST_THEN_NORTH, 0, (0, 0), (4, 0), (4, 3)), [4, 7])
        self.assertEqual(times(EAST_THEN_NORTH, 0, (0, 0), (4, 0), (5, 0)), [4])
        self.assertEqual(times(EAST_THEN_NORTH, 0, (0, 0), (4, 0), (4, 0)), [4, 4])
        slices = [(0, [(1, 0)]), (4, [(5, 0)]), (6, [(10, 0)])]
        self.assertEqual(times(slices, 1, (0, 0), (3, 0), (13, 0), (14, 0)), [4, 6, Fraction(61, 10)])

    def test_a_wind_that_is_missed(self):
        """The place on the way makes it too late for the first slice's wind."""
        slices = [(0, [(1, 0), (0, 1)]), (4, [(0, 1)])]
        self.assertEqual(times(slices, 0, (0, 0), (2, 2), (3, 2)), [4])
        self.assertEqual(times(slices, 0, (0, 0), (3, 2)), [5])

    def test_waits_for_the_wind(self):
        slices = [(0, [(0, 0)]), (10, [(1, 0)]), (20, [(0, 0)]), (30, [(1, 0)])]
        self.assertEqual(times(slices, 3, (0, 0), (10, 0), (11, 0), (11, 0)), [20, 31, 31])

    def test_never_as_the_first(self):
        self.assertEqual(ask_of(EAST_THEN_NORTH, course(0, (0, 0), (5, 1), (5, 2), (5, 3))), [[0]])
        self.assertEqual(ask_of([(0, [(0, 0)])], course(0, (0, 0), (0, 1))), [[0]])

    def test_never_in_the_middle(self):
        self.assertEqual(times(EAST_THEN_NORTH, 0, (0, 0), (3, 0), (2, 0), (2, 1)), [3])
        self.assertEqual(times(EAST_THEN_NORTH, 0, (0, 0), (3, 0), (3, 1), (3, 0), (3, 1)), [3, 5])

    def test_never_as_the_last(self):
        self.assertEqual(times(EAST_THEN_NORTH, 0, (0, 0), (3, 0), (3, 1), (4, 1)), [3, 5])

    def test_twice_as_long_as_a_way(self):
        far = FURTHEST
        self.assertEqual(times([(0, FOUR_WAYS)], 0, (-far, -far), (far, far), (-far, far), (far, -far)),
                         [4 * far, 6 * far, 10 * far])
        self.assertEqual(times([(0, [(1000, 0), (0, -999)])], LAST_TIME, (-far, far), (far, far), (far, -far)),
                         [LAST_TIME + 2000, LAST_TIME + 2000 + Fraction(2 * far, 999)])

    def test_thirty_places(self):
        places = [(k * k, -k) for k in range(30)]
        slices = [(0, [(7, -1), (2, -5)]), (5, [(11, 3), (0, -13), (-1, 2)]), (9, [(17, -1), (1, -19), (-1, 1)])]
        found = times(slices, 0, *places)
        self.assertEqual(len(found), 29)
        self.assertEqual(found, course_by_words(slices, 0, places))

    def test_lower_numbers_of_any_size(self):
        slices = [(0, [(997, 3), (-5, 991), (-983, -7), (11, -977)])]
        source = random.Random(31)
        places = [(source.randint(-99, 99), source.randint(-99, 99)) for k in range(30)]
        found = times(slices, 0, *places)
        self.assertEqual(found, course_by_words(slices, 0, places))
        self.assertGreater(found[-1].denominator, 10 ** 15)

    def test_word_by_word(self):
        source = random.Random(32)
        kinds = {}
        for k in range(400):
            slices = draw_slices(source, 4, 5, source.choice([1, 2, 3, 7]), 12)
            places = draw_places(source, source.randint(2, 6), 6)
            t = source.randint(0, 10)
            with self.subTest(slices=slices, places=places, t=t):
                found = times(slices, t, *places)
                self.assertEqual(found, course_by_words(slices, t, places))
            kind = (len(found) == len(places) - 1, any(time.denominator > 1 for time in found[:-1]))
            kinds[kind] = kinds.get(kind, 0) + 1
        self.assertEqual(len(kinds), 4)
        self.assertGreater(min(kinds.values()), 10)

    def test_against_programming(self):
        source = random.Random(33)
        for k in range(80):
            slices = draw_slices(source, 3, 4, 3, 9)
            places = draw_places(source, 4, 6)
            t = source.randint(0, 6)
            with self.subTest(slices=slices, places=places, t=t):
                self.assertEqual(times(slices, t, *places), course_by_words(slices, t, places, least_by_programming))

    def test_large(self):
        source = random.Random(34)
        for k in range(8):
            slices = draw_slices(source, 12, 24, 1000, 20000)
            places = draw_places(source, 30, FURTHEST)
            t = source.randint(0, 20000)
            with self.subTest(slices=slices, places=places, t=t):
                self.assertEqual(times(slices, t, *places), course_by_words(slices, t, places))


class CourseRefusalTest(unittest.TestCase):
    def test_length(self):
        made = slice_call(0, *FOUR_WAYS)
        counts = (0, 1, 2, 3, 4, 5, 6, 59, 60)
        told = ask(made, *[course_numbers(0, [1] * count) for count in counts])[1:]
        legs = {4: 1, 6: 2, 60: 29}
        self.assertEqual([numbers[0] for numbers in told], [legs.get(count, -1) for count in counts])

    def test_out_of_range(self):
        made = slice_call(0, *FOUR_WAYS)
        for bad in (FURTHEST + 1, -FURTHEST - 1, HUGE, -HUGE):
            for place in range(6):
                numbers = [0] * 6
                numbers[place] = bad
                self.assertEqual(ask_last(made, course_numbers(0, numbers)), [-1])
        for good in (FURTHEST, -FURTHEST):
            for place in range(6):
                numbers = [0] * 6
                numbers[place] = good
                self.assertEqual(ask_last(made, course_numbers(0, numbers))[0], 2)
        for bad in (-1, LAST_TIME + 1, HUGE, -HUGE):
            self.assertEqual(ask_last(made, course(bad, (0, 0), (1, 0))), [-1])
        for good in (0, LAST_TIME):
            self.assertEqual(times([(0, FOUR_WAYS)], good, (0, 0), (1, 0)), [good + 1])

    def test_no_slice_at_all(self):
        self.assertEqual(ask_last(course(0, (0, 0), (0, 0))), [-4])

    def test_in_order(self):
        told = ask(course_numbers(0, []), course_numbers(0, [0] * 5), course(-1, (0, 0), (1, 1)),
                   course(LAST_TIME + 1, (0, 0), (1, 1)), course(0, (0, 0), (FURTHEST + 1, 0)))
        self.assertEqual(told, [[-1]] * 5)

    def test_changes_nothing(self):
        good = [1, *text("3/1")]
        told = ask_of(EAST_THEN_NORTH, course(0, (0, 0), (3, 0)), course(-1, (0, 0), (3, 0)), course_numbers(0, [1]),
                      course(0, (0, 0), (3, 0)))
        self.assertEqual(told, [good, [-1], [-1], good])
        self.assertEqual(ask(course(0, (0, 0), (3, 0)), slice_call(0, (1, 0)), course(0, (0, 0), (3, 0))),
                         [[-4], [1], good])


class BoundTest(unittest.TestCase):
    def test_numbers_as_they_stand(self):
        self.assertEqual(ask_of([(0, [(2, 0)]), (9, [(0, 3)])], bound((5, 5), (6, 5), (6, 6), (8, 9))),
                         [[0, *text("17/6")]])

    def test_velocities_of_all_slices(self):
        slices = [(0, [(1, 0)]), (4, [(0, 1)]), (6, [(-1, 0)]), (LAST_TIME, [(0, -5)])]
        self.assertEqual(bound_of(slices, (0, 0), (9, 0), (9, 7), (0, 7), (0, 0)), 9 + 7 + 9 + Fraction(7, 5))
        self.assertEqual(bound_of(slices, (0, 0), (1, -1)), Fraction(6, 5))

    def test_stays_where_it_is(self):
        for slices in (EAST_THEN_NORTH, [(0, [(0, 0)])], [(0, SQUARE)]):
            self.assertEqual(ask_of(slices, bound((7, -7), (7, -7)), bound((1, 2), (1, 2), (1, 2))),
                             [[0, *text("0/1")]] * 2)

    def test_never(self):
        self.assertEqual(ask_of(EAST_THEN_NORTH, bound((0, 0), (-1, 0)), bound((0, 0), (0, 0), (0, -1)),
                                bound((0, 0), (1, 0), (0, 1), (5, 5)), bound((0, 0), (5, 5))),
                         [[-6], [-6], [-6], [0, *text("10/1")]])
        self.assertEqual(ask_of([(0, [(0, 0)])], bound((0, 0), (1, 0))), [[-6]])
        self.assertEqual(ask_of([(0, [(2, 1)]), (3, [(4, 2)])], bound((0, 0), (1, 1)), bound((0, 0), (2, 1))),
                         [[-6], [0, *text("1/2")]])

    def test_as_course_in_one_slice_alone(self):
        source = random.Random(35)
        kinds = set()
        for k in range(200):
            slices = draw_slices(source, 1, 5, 3, 1)
            places = draw_places(source, source.randint(2, 6), 9)
            told = ask_of(slices, course(0, *places), bound(*places))
            found = read_course(told[0])
            whole = len(found) == len(places) - 1
            kinds.add(whole)
            self.assertEqual(read_bound(told[1]), found[-1] if whole else None)
        self.assertEqual(kinds, {True, False})

    def test_as_course_with_all_velocities(self):
        source = random.Random(36)
        kinds = set()
        for k in range(200):
            slices = draw_slices(source, 5, 4, 4, 9)
            places = draw_places(source, source.randint(2, 6), 9)
            with self.subTest(slices=slices, places=places):
                found = times(joined(slices), 0, *places)
                right = found[-1] if len(found) == len(places) - 1 else None
                self.assertEqual(bound_of(slices, *places), right)
                self.assertEqual(right, bound_by_words(slices, places))
            kinds.add(right is None)
        self.assertEqual(kinds, {True, False})

    def test_no_course_takes_less(self):
        source = random.Random(37)
        less = 0
        for k in range(200):
            slices = draw_slices(source, 4, 4, 3, 9)
            places = draw_places(source, source.randint(2, 6), 9)
            t = source.randint(0, 9)
            told = ask_of(slices, course(t, *places), bound(*places))
            found, lowest = read_course(told[0]), read_bound(told[1])
            if len(found) == len(places) - 1:
                with self.subTest(slices=slices, places=places, t=t):
                    self.assertIsNotNone(lowest)
                    self.assertLessEqual(lowest, found[-1] - t)
                less += lowest < found[-1] - t
        self.assertGreater(less, 20)

    def test_new_slice_counts(self):
        told = ask(slice_call(0, (1, 0)), bound((0, 0), (6, 0)), slice_call(5, (3, 0)), bound((0, 0), (6, 0)),
                   [0], slice_call(0, (2, 0)), bound((0, 0), (6, 0)))
        self.assertEqual([told[k] for k in (1, 3, 6)], [[0, *text(words)] for words in ("6/1", "2/1", "3/1")])

    def test_twice_as_long_as_a_way(self):
        far = FURTHEST
        self.assertEqual(bound_of([(0, FOUR_WAYS)], (-far, -far), (far, far), (far, -far)), 6 * far)

    def test_twelve_slices_of_twenty_four(self):
        slices = round_slices()
        places = draw_places(random.Random(38), 30, FURTHEST)
        self.assertEqual(bound_of(slices, *places[:3]), bound_by_words(slices, places[:3]))
        told = ask_of(slices, *[bound(*places)] * 80, *[bound(*leg) for leg in zip(places[:7], places[1:8])],
                      bound(*places[:8]))
        self.assertEqual(told[:80], told[:1] * 80)
        self.assertEqual(sum(read_bound(numbers) for numbers in told[80:87]), read_bound(told[87]))


class BoundRefusalTest(unittest.TestCase):
    def test_length(self):
        made = slice_call(0, *FOUR_WAYS)
        counts = (0, 1, 2, 3, 4, 5, 6, 59, 60)
        told = ask(made, *[bound_numbers([1] * count) for count in counts])[1:]
        self.assertEqual([numbers[0] for numbers in told], [0 if count in (4, 6, 60) else -1 for count in counts])

    def test_out_of_range(self):
        made = slice_call(0, *FOUR_WAYS)
        for value in (FURTHEST + 1, -FURTHEST - 1, HUGE, -HUGE, FURTHEST, -FURTHEST):
            for place in range(6):
                numbers = [0] * 6
                numbers[place] = value
                self.assertEqual(ask_last(made, bound_numbers(numbers))[0], 0 if abs(value) == FURTHEST else -1)

    def test_no_slice_at_all(self):
        self.assertEqual(ask(bound((0, 0), (0, 0)), bound((0, 0), (1, 0))), [[-4], [-4]])

    def test_in_order(self):
        self.assertEqual(ask(bound_numbers([]), bound((0, 0), (FURTHEST + 1, 0)), bound_numbers([1] * 5)), [[-1]] * 3)
        self.assertEqual(ask_of([(0, [(0, 0)])], bound((0, 0), (1, FURTHEST + 1)), bound((0, 0), (1, FURTHEST))),
                         [[-1], [-6]])

    def test_changes_nothing(self):
        good = [0, *text("3/1")]
        told = ask_of(EAST_THEN_NORTH, bound((0, 0), (3, 0)), bound((0, 0), (-3, 0)), bound_numbers([1]),
                      bound((0, 0), (3, 0)), least(4, 4, 0))
        self.assertEqual(told, [good, [-6], [-1], good, [1, 1, 0, 1, *text("8/1")]])


if __name__ == "__main__":
    unittest.main()
