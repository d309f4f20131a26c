"""The promises: nobody is there sooner; to begin sooner, a velocity more, a place left out never make it later.

That the way told goes just (x, y) in just that time is held in test_way.
"""

import random
import unittest

from tests.helper import FURTHEST, LAST_TIME, ask_of, bound, check, course, draw_places, draw_slices, draw_velocity
from tests.helper import least, reach, read_bound, read_corners, read_course, read_least, set_call
from tests.oracle import gone_by_seconds, is_within, least_by_programming, least_cost, stays, support_by_words


def arrival(slices, x, y, t):
    return read_least(ask_of(slices, least(x, y, t))[0])


def row_end(numbers, places):
    """When a whole row is sailed, None if never."""
    times = read_course(numbers)
    return times[-1] if len(times) == len(places) - 1 else None


def one_velocity_more(source, slices, size):
    place = source.randrange(len(slices))
    begin, velocities = slices[place]
    richer = list(slices)
    richer[place] = (begin, velocities + [draw_velocity(source, size)])
    return richer


def is_no_later(time, other):
    """Whether a time, or never (None), is at most another."""
    return other is None or (time is not None and time <= other)


class OracleTest(unittest.TestCase):
    """The other way has to be right itself, on cases that one sees through."""

    def test_least_cost(self):
        self.assertEqual(least_cost([[2, 1]], [6], [1, 1]), 3)
        self.assertEqual(least_cost([[1, -1]], [-4], [1, 3]), 12)
        self.assertIsNone(least_cost([[1, 1]], [-1], [1, 1]))
        self.assertIsNone(least_cost([[1, 0], [1, 0]], [1, 2], [1, 1]))
        self.assertEqual(least_cost([[1, 0], [2, 0]], [1, 2], [5, 1]), 5)

    def test_example(self):
        slices = [(0, [(1, 0)]), (4, [(0, 1)])]
        self.assertEqual(least_by_programming(slices, 4, 4, 0), (1, 8))
        self.assertIsNone(least_by_programming(slices, 5, 1, 0))


class NobodyIsSoonerTest(unittest.TestCase):
    def test_against_programming(self):
        source = random.Random(9)
        kinds = {}
        for k in range(500):
            slices = draw_slices(source, 4, 4, source.choice([1, 2, 3, 7]), 8)
            x, y, t = source.randint(-12, 12), source.randint(-12, 12), source.randint(0, 9)
            with self.subTest(slices=slices, x=x, y=y, t=t):
                number, proof, time = arrival(slices, x, y, t)
                right = least_by_programming(slices, x, y, t)
                self.assertEqual(None if number is None else (number, time), right)
            kinds[number] = kinds.get(number, 0) + 1
        self.assertGreater(min(kinds.get(number, 0) for number in (None, 0, 1, 2)), 20)

    def test_against_every_way_of_whole_seconds(self):
        source = random.Random(10)
        for k in range(60):
            slices = draw_slices(source, 3, 3, 2, 4)
            t = source.randint(0, 3)
            gone = gone_by_seconds(slices, t, t + 5)
            for u in range(t, t + 6):
                for x, y in source.sample(sorted(gone[u]), min(8, len(gone[u]))):
                    with self.subTest(slices=slices, x=x, y=y, t=t, u=u):
                        time = arrival(slices, x, y, t)[2]
                        self.assertTrue(is_no_later(time, u))
                        self.assertEqual(ask_of(slices, reach(x, y, t, u)), [[1]])

    def test_set_and_check_against_every_way_of_whole_seconds(self):
        source = random.Random(60)
        for k in range(60):
            slices = draw_slices(source, 3, 3, 2, 4)
            t = source.randint(0, 3)
            gone = gone_by_seconds(slices, t, t + 5)
            for u in range(t, t + 6):
                corners = read_corners(ask_of(slices, set_call(t, u))[0])
                with self.subTest(slices=slices, t=t, u=u):
                    self.assertEqual([place for place in gone[u] if not is_within(corners, place)], [])
                    self.assertEqual([corner for corner in corners if corner not in gone[u]], [])
                    x, y = source.choice(sorted(gone[u]))
                    self.assertEqual(ask_of(slices, check(t, (x, y, u))), [[0]])

    def test_rows_against_every_way_of_whole_seconds(self):
        """One who sails second by second is at no place of a row sooner than told."""
        source = random.Random(61)
        for k in range(60):
            slices = draw_slices(source, 3, 3, 2, 5)
            t = u = source.randint(0, 3)
            x = y = 0
            places, times = [(0, 0)], []
            for j in range(3):
                till = u + source.randint(0, 3)
                p, q = source.choice(sorted(gone_by_seconds(slices, u, till)[till]))
                x, y, u = x + p, y + q, till
                places.append((x, y))
                times.append(u)
            told = ask_of(slices, course(t, *places), bound(*places))
            with self.subTest(slices=slices, t=t, places=places, times=times):
                found = read_course(told[0])
                self.assertEqual(len(found), 3)
                self.assertTrue(all(time <= claimed for time, claimed in zip(found, times)))
                self.assertLessEqual(read_bound(told[1]), u - t)

    def test_proof_bounds_every_way(self):
        """In the proof's direction all slices together go no further than needed, and just so at the arrival."""
        source = random.Random(11)
        for k in range(300):
            slices = draw_slices(source, 4, 4, 4, 8)
            x, y, t = source.randint(-12, 12), source.randint(-12, 12), source.randint(0, 9)
            number, (a, b), time = arrival(slices, x, y, t)
            gone = 0
            for j, since, till in stays(slices, t):
                strength = support_by_words(slices[j][1], a, b)
                if number is not None and j <= number:
                    gone += strength * ((time if j == number else till) - since)
                elif number is None:
                    gone += strength * (till - since) if till is not None else 0
                    last = strength
            with self.subTest(slices=slices, x=x, y=y, t=t):
                if number is None:
                    self.assertEqual(last, 0)
                    self.assertLess(gone, a * x + b * y)
                else:
                    self.assertEqual(gone, a * x + b * y)


class NeverLaterTest(unittest.TestCase):
    def test_to_begin_sooner(self):
        source = random.Random(12)
        changed = 0
        for k in range(300):
            slices = draw_slices(source, 5, 4, 3, 12)
            x, y = source.randint(-12, 12), source.randint(-12, 12)
            told = [read_least(numbers)[2] for numbers in ask_of(slices, *[least(x, y, t) for t in range(16)])]
            with self.subTest(slices=slices, x=x, y=y):
                for sooner, later in zip(told, told[1:]):
                    self.assertTrue(is_no_later(sooner, later))
                    changed += sooner != later
        self.assertGreater(changed, 100)

    def test_a_velocity_more(self):
        source = random.Random(13)
        changed = 0
        for k in range(600):
            slices = draw_slices(source, 4, 4, 3, 10)
            x, y, t = source.randint(-12, 12), source.randint(-12, 12), source.randint(0, 9)
            richer = one_velocity_more(source, slices, 4)
            with self.subTest(slices=slices, richer=richer, x=x, y=y, t=t):
                before, after = arrival(slices, x, y, t)[2], arrival(richer, x, y, t)[2]
                self.assertTrue(is_no_later(after, before))
            changed += before != after
        self.assertGreater(changed, 50)

    def test_large(self):
        source = random.Random(14)
        for k in range(60):
            slices = draw_slices(source, 12, 23, 1000, 1000000)
            x, y = source.randint(-1000000, 1000000), source.randint(-1000000, 1000000)
            t = source.randint(0, 999999)
            richer = [(begin, velocities + [draw_velocity(source, 1000)]) for begin, velocities in slices]
            time = arrival(slices, x, y, t)[2]
            with self.subTest(slices=slices, x=x, y=y, t=t):
                self.assertTrue(is_no_later(time, arrival(slices, x, y, t + 1)[2]))
                self.assertTrue(is_no_later(arrival(richer, x, y, t)[2], time))


class RowsNeverLaterTest(unittest.TestCase):
    def test_a_place_left_out(self):
        source = random.Random(62)
        changed = 0
        for k in range(400):
            slices = draw_slices(source, 5, 4, 3, 15)
            places = draw_places(source, source.randint(3, 7), 6)
            t = source.randint(0, 9)
            left_out = [places[:j] + places[j + 1:] for j in range(len(places))]
            rows = [places] + left_out
            told = ask_of(slices, *[course(t, *row) for row in rows], *[bound(*row) for row in rows])
            whole = row_end(told[0], places)
            lowest = read_bound(told[len(rows)])
            with self.subTest(slices=slices, places=places, t=t):
                for row, numbers, bounded in zip(left_out, told[1:], told[len(rows) + 1:]):
                    self.assertTrue(is_no_later(row_end(numbers, row), whole))
                    self.assertTrue(is_no_later(read_bound(bounded), lowest))
                    changed += row_end(numbers, row) != whole
        self.assertGreater(changed, 200)

    def test_to_begin_sooner(self):
        source = random.Random(63)
        changed = 0
        for k in range(200):
            slices = draw_slices(source, 5, 4, 3, 12)
            places = draw_places(source, source.randint(2, 5), 6)
            told = ask_of(slices, *[course(t, *places) for t in range(16)])
            ends = [row_end(numbers, places) for numbers in told]
            with self.subTest(slices=slices, places=places):
                for sooner, later in zip(ends, ends[1:]):
                    self.assertTrue(is_no_later(sooner, later))
                    changed += sooner != later
        self.assertGreater(changed, 100)

    def test_a_velocity_more(self):
        source = random.Random(64)
        changed = 0
        for k in range(400):
            slices = draw_slices(source, 4, 4, 3, 10)
            richer = one_velocity_more(source, slices, 4)
            places = draw_places(source, source.randint(2, 5), 6)
            t = source.randint(0, 6)
            before, lowest = ask_of(slices, course(t, *places), bound(*places))
            after, lower = ask_of(richer, course(t, *places), bound(*places))
            with self.subTest(slices=slices, richer=richer, places=places, t=t):
                self.assertTrue(is_no_later(row_end(after, places), row_end(before, places)))
                self.assertTrue(is_no_later(read_bound(lower), read_bound(lowest)))
            changed += before != after
        self.assertGreater(changed, 50)

    def test_sets_only_grow(self):
        source = random.Random(65)
        for k in range(200):
            slices = draw_slices(source, 4, 4, 3, 10)
            richer = one_velocity_more(source, slices, 4)
            t = source.randint(1, 9)
            u = t + source.randint(0, 9)
            less = read_corners(ask_of(slices, set_call(t, u))[0])
            wider = ask_of(slices, set_call(t - 1, u), set_call(t, u + 1)) + ask_of(richer, set_call(t, u))
            with self.subTest(slices=slices, richer=richer, t=t, u=u):
                for numbers in wider:
                    self.assertTrue(all(is_within(read_corners(numbers), corner) for corner in less))

    def test_large(self):
        source = random.Random(66)
        for k in range(20):
            slices = draw_slices(source, 12, 23, 1000, 9000)
            richer = [(begin, velocities + [draw_velocity(source, 1000)]) for begin, velocities in slices]
            places = draw_places(source, 8, FURTHEST)
            t = source.choice([0, source.randint(0, 9000), LAST_TIME - 1])
            out = source.randrange(len(places))
            fewer = places[:out] + places[out + 1:]
            told = ask_of(slices, course(t, *places), course(t, *fewer), course(t + 1, *places))
            end = row_end(told[0], places)
            with self.subTest(slices=slices, places=places, t=t, out=out):
                self.assertTrue(is_no_later(row_end(told[1], fewer), end))
                self.assertTrue(is_no_later(end, row_end(told[2], places)))
                self.assertTrue(is_no_later(row_end(ask_of(richer, course(t, *places))[0], places), end))


if __name__ == "__main__":
    unittest.main()
