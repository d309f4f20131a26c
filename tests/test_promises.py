"""The promises: nobody is there sooner; to begin sooner, or a velocity more, never makes it later.

That the way told goes just (x, y) in just that time is held in test_way.
"""

import random
import unittest

from tests.helper import ask_of, draw_slices, draw_velocity, least, reach, read_least
from tests.oracle import gone_by_seconds, least_by_programming, least_cost, stays, support_by_words


def arrival(slices, x, y, t):
    return read_least(ask_of(slices, least(x, y, t))[0])


def is_no_later(time, other):
    """Whether a time, or never (None), is at most another."""
    return other is None or (time is not None and time <= other)


class OracleTest(unittest.TestCase):
    """The other way has to be right itself, on cases that one sees through."""

    def test_least_cost(self):
        self.assertEqual(least_cost([[2, 1]], [6], [1, 1]), 3)
        self.assertEqual(least_cost([[1, -1]], [-4], [1, 3]), 12)
        self.assertIsNone(least_cost([[1, 1]], [-1], [1, 1]))
        self.assertIsNone(least_cost([[1, 0], [1, 0]], [1, 2], [1, 1]))
        self.assertEqual(least_cost([[1, 0], [2, 0]], [1, 2], [5, 1]), 5)

    def test_example(self):
        slices = [(0, [(1, 0)]), (4, [(0, 1)])]
        self.assertEqual(least_by_programming(slices, 4, 4, 0), (1, 8))
        self.assertIsNone(least_by_programming(slices, 5, 1, 0))


class NobodyIsSoonerTest(unittest.TestCase):
    def test_against_programming(self):
        source = random.Random(9)
        kinds = {}
        for k in range(500):
            slices = draw_slices(source, 4, 4, source.choice([1, 2, 3, 7]), 8)
            x, y, t = source.randint(-12, 12), source.randint(-12, 12), source.randint(0, 9)
            with self.subTest(slices=slices, x=x, y=y, t=t):
                number, proof, time = arrival(slices, x, y, t)
                right = least_by_programming(slices, x, y, t)
                self.assertEqual(None if number is None else (number, time), right)
            kinds[number] = kinds.get(number, 0) + 1
        self.assertGreater(min(kinds.get(number, 0) for number in (None, 0, 1, 2)), 20)

    def test_against_every_way_of_whole_seconds(self):
        source = random.Random(10)
        for k in range(60):
            slices = draw_slices(source, 3, 3, 2, 4)
            t = source.randint(0, 3)
            gone = gone_by_seconds(slices, t, t + 5)
            for u in range(t, t + 6):
                for x, y in source.sample(sorted(gone[u]), min(8, len(gone[u]))):
                    with self.subTest(slices=slices, x=x, y=y, t=t, u=u):
                        time = arrival(slices, x, y, t)[2]
                        self.assertTrue(is_no_later(time, u))
                        self.assertEqual(ask_of(slices, reach(x, y, t, u)), [[1]])

    def test_proof_bounds_every_way(self):
        """In the proof's direction all slices together go no further than needed, and just so at the arrival."""
        source = random.Random(11)
        for k in range(300):
            slices = draw_slices(source, 4, 4, 4, 8)
            x, y, t = source.randint(-12, 12), source.randint(-12, 12), source.randint(0, 9)
            number, (a, b), time = arrival(slices, x, y, t)
            gone = 0
            for j, since, till in stays(slices, t):
                strength = support_by_words(slices[j][1], a, b)
                if number is not None and j <= number:
                    gone += strength * ((time if j == number else till) - since)
                elif number is None:
                    gone += strength * (till - since) if till is not None else 0
                    last = strength
            with self.subTest(slices=slices, x=x, y=y, t=t):
                if number is None:
                    self.assertEqual(last, 0)
                    self.assertLess(gone, a * x + b * y)
                else:
                    self.assertEqual(gone, a * x + b * y)


class NeverLaterTest(unittest.TestCase):
    def test_to_begin_sooner(self):
        source = random.Random(12)
        changed = 0
        for k in range(300):
            slices = draw_slices(source, 5, 4, 3, 12)
            x, y = source.randint(-12, 12), source.randint(-12, 12)
            told = [read_least(numbers)[2] for numbers in ask_of(slices, *[least(x, y, t) for t in range(16)])]
            with self.subTest(slices=slices, x=x, y=y):
                for sooner, later in zip(told, told[1:]):
                    self.assertTrue(is_no_later(sooner, later))
                    changed += sooner != later
        self.assertGreater(changed, 100)

    def test_a_velocity_more(self):
        source = random.Random(13)
        changed = 0
        for k in range(600):
            slices = draw_slices(source, 4, 4, 3, 10)
            x, y, t = source.randint(-12, 12), source.randint(-12, 12), source.randint(0, 9)
            place = source.randrange(len(slices))
            begin, velocities = slices[place]
            richer = list(slices)
            richer[place] = (begin, velocities + [draw_velocity(source, 4)])
            with self.subTest(slices=slices, richer=richer, x=x, y=y, t=t):
                before, after = arrival(slices, x, y, t)[2], arrival(richer, x, y, t)[2]
                self.assertTrue(is_no_later(after, before))
            changed += before != after
        self.assertGreater(changed, 50)

    def test_large(self):
        source = random.Random(14)
        for k in range(60):
            slices = draw_slices(source, 12, 23, 1000, 1000000)
            x, y = source.randint(-1000000, 1000000), source.randint(-1000000, 1000000)
            t = source.randint(0, 999999)
            richer = [(begin, velocities + [draw_velocity(source, 1000)]) for begin, velocities in slices]
            time = arrival(slices, x, y, t)[2]
            with self.subTest(slices=slices, x=x, y=y, t=t):
                self.assertTrue(is_no_later(time, arrival(slices, x, y, t + 1)[2]))
                self.assertTrue(is_no_later(arrival(richer, x, y, t)[2], time))


if __name__ == "__main__":
    unittest.main()
