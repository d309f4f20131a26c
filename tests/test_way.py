"""The call way: which velocities, in which order, how long each."""

import random
import unittest
from fractions import Fraction

from tests.helper import FURTHEST, HUGE, LAST_TIME, ask, ask_last, ask_of, draw_slices, least, read_least, read_way
from tests.helper import slice_call, text, way
from tests.oracle import corners_by_pairs, stays

SQUARE = [(-1, -1), (1, -1), (1, 1), (-1, 1)]
DIAMOND = [(0, -1), (1, 0), (0, 1), (-1, 0)]
EAST_THEN_NORTH = [(0, [(1, 0)]), (4, [(0, 1)])]


def pieces(slices, x, y, t):
    return read_way(ask_of(slices, way(x, y, t))[0])


def spans_till(slices, t, time):
    """How long one who begins at t is in each slice till the time."""
    found = {}
    for k, since, till in stays(slices, t):
        if time >= since:
            found[k] = (time if till is None else min(time, till)) - since
    return found


class FormTest(unittest.TestCase):
    def test_numbers_as_they_stand(self):
        self.assertEqual(ask_of([(0, SQUARE)], way(5, 1, 0))[0],
                         [2, 0, 1, -1, *text("2/1"), 0, 1, 1, *text("3/1")])

    def test_nothing_to_go(self):
        self.assertEqual(ask_of(EAST_THEN_NORTH, way(0, 0, 0), way(0, 0, 4), way(0, 0, LAST_TIME)), [[0]] * 3)
        self.assertEqual(ask_of([(0, SQUARE)], way(0, 0, 3)), [[0]])
        self.assertEqual(ask_of([(0, [(0, 0)])], way(0, 0, 3)), [[0]])


class OneSliceTest(unittest.TestCase):
    def test_one_velocity(self):
        self.assertEqual(pieces([(0, [(3, 0)])], 7, 0, 9), [(0, (3, 0), Fraction(7, 3))])

    def test_right_one_before_the_left_one(self):
        self.assertEqual(pieces([(0, SQUARE)], 5, 1, 0), [(0, (1, -1), 2), (0, (1, 1), 3)])
        self.assertEqual(pieces([(0, SQUARE)], 1, 5, 0), [(0, (1, 1), 3), (0, (-1, 1), 2)])
        self.assertEqual(pieces([(0, SQUARE)], -5, 1, 0), [(0, (-1, 1), 3), (0, (-1, -1), 2)])
        self.assertEqual(pieces([(0, SQUARE)], 1, -5, 0), [(0, (-1, -1), 2), (0, (1, -1), 3)])

    def test_only_the_left_one(self):
        self.assertEqual(pieces([(0, SQUARE)], 5, 5, 0), [(0, (1, 1), 5)])

    def test_only_the_right_one(self):
        self.assertEqual(pieces([(0, SQUARE)], -5, 5, 0), [(0, (-1, 1), 5)])
        self.assertEqual(pieces([(0, SQUARE)], -5, -5, 0), [(0, (-1, -1), 5)])

    def test_parts_of_a_second(self):
        self.assertEqual(pieces([(0, [(3, 0), (0, 3)])], 2, 2, 0),
                         [(0, (3, 0), Fraction(2, 3)), (0, (0, 3), Fraction(2, 3))])
        self.assertEqual(pieces([(0, [(5, 0), (0, 7)])], 1, 1, 6),
                         [(0, (5, 0), Fraction(1, 5)), (0, (0, 7), Fraction(1, 7))])

    def test_corners_alone_are_sailed(self):
        self.assertEqual(pieces([(0, [(4, 0), (2, 2), (0, 4)])], 2, 2, 0), [(0, (4, 0), Fraction(1, 2)),
                                                                         (0, (0, 4), Fraction(1, 2))])


class SeveralSlicesTest(unittest.TestCase):
    def test_example(self):
        self.assertEqual(pieces(EAST_THEN_NORTH, 4, 4, 0), [(0, (1, 0), 4), (1, (0, 1), 4)])

    def test_left_one_from_the_first_slice_on(self):
        slices = [(0, SQUARE), (3, SQUARE)]
        self.assertEqual(pieces(slices, 5, 1, 0), [(0, (1, 1), 3), (1, (1, -1), 2)])
        self.assertEqual(pieces(slices, 5, 3, 0), [(0, (1, 1), 3), (1, (1, -1), 1), (1, (1, 1), 1)])
        self.assertEqual(pieces(slices, 5, -1, 0), [(0, (1, -1), 1), (0, (1, 1), 2), (1, (1, -1), 2)])
        self.assertEqual(pieces(slices, 5, -5, 1), [(0, (1, -1), 2), (1, (1, -1), 3)])

    def test_slice_where_right_and_left_are_one(self):
        slices = [(0, DIAMOND), (2, SQUARE)]
        self.assertEqual(pieces(slices, 5, 1, 0), [(0, (1, 0), 2), (1, (1, -1), 1), (1, (1, 1), 2)])
        self.assertEqual(pieces(slices, 5, 3, 0), [(0, (1, 0), 2), (1, (1, 1), 3)])
        self.assertEqual(pieces(slices, 3, 5, 0), [(0, (0, 1), 2), (1, (1, 1), 3)])

    def test_rest_is_not_told(self):
        self.assertEqual(pieces(EAST_THEN_NORTH, 3, 4, 0), [(0, (1, 0), 3), (1, (0, 1), 4)])
        self.assertEqual(pieces(EAST_THEN_NORTH, 0, 4, 0), [(1, (0, 1), 4)])
        self.assertEqual(pieces([(0, [(0, 0)]), (10, [(2, 0)])], 1, 0, 0), [(1, (2, 0), Fraction(1, 2))])

    def test_rest_on_the_right(self):
        slices = [(0, [(-1, 0)]), (4, [(0, 1)])]
        self.assertEqual(pieces(slices, -3, 4, 0), [(0, (-1, 0), 3), (1, (0, 1), 4)])

    def test_begins_within_a_later_slice(self):
        slices = [(0, SQUARE), (3, DIAMOND), (6, SQUARE)]
        self.assertEqual(pieces(slices, 4, 1, 4), [(1, (1, 0), 2), (2, (1, -1), Fraction(1, 2)),
                                                 (2, (1, 1), Fraction(3, 2))])
        self.assertEqual(pieces(slices, 4, 0, 6), [(2, (1, -1), 2), (2, (1, 1), 2)])

    def test_ends_just_at_a_slices_end(self):
        self.assertEqual(pieces([(0, SQUARE), (3, DIAMOND)], 3, 1, 0), [(0, (1, -1), 1), (0, (1, 1), 2)])

    def test_proof_of_a_slice_that_is_over(self):
        self.assertEqual(pieces([(0, DIAMOND), (5, SQUARE)], 3, 3, 5), [(1, (1, 1), 3)])


class DrawnTest(unittest.TestCase):
    """Point 2 of the promises, and the rest of the words on ways."""

    def check_way(self, slices, x, y, t):
        told, found = ask_of(slices, least(x, y, t), way(x, y, t))
        number, proof, time = read_least(told)
        if number is None:
            self.assertEqual(found, [-6])
            return None
        sailed = read_way(found)
        self.assertEqual(sum(velocity[0] * lasting for k, velocity, lasting in sailed), x)
        self.assertEqual(sum(velocity[1] * lasting for k, velocity, lasting in sailed), y)
        spans = spans_till(slices, t, time)
        for k, velocity, lasting in sailed:
            self.assertIn(k, spans)
            self.assertGreater(lasting, 0)
            self.assertNotEqual(velocity, (0, 0))
            self.assertIn(velocity, slices[k][1])
        self.assertEqual([k for k, velocity, lasting in sailed], sorted(k for k, velocity, lasting in sailed))
        for k, span in spans.items():
            self.assertLessEqual(sum(lasting for j, velocity, lasting in sailed if j == k), span)
        self.check_shares(slices, proof, spans, sailed)
        return sailed

    def check_shares(self, slices, proof, spans, sailed):
        """In each slice the right one, then the left one, and no left one behind a right one that could turn."""
        a, b = proof
        may_turn = True
        for k, span in spans.items():
            corners = corners_by_pairs(slices[k][1])
            furthest = max(a * p + b * q for p, q in corners)
            ahead = sorted((a * q - b * p, (p, q)) for p, q in corners if a * p + b * q == furthest)
            right, left = ahead[0][1], ahead[-1][1]
            here = [(velocity, lasting) for j, velocity, lasting in sailed if j == k]
            self.assertEqual([velocity for velocity, lasting in here],
                             [v for v in ([right] if right == left else [right, left]) if v in dict(here)])
            rest = span - sum(lasting for velocity, lasting in here)
            times = {right: Fraction(0), left: Fraction(0)}
            times.update(here)
            if rest > 0:
                self.assertIn((0, 0), times)
                times[(0, 0)] = rest
            if right != left and span > 0:
                self.assertTrue(may_turn or times[left] == 0)
                may_turn = may_turn and times[right] == 0

    def test_small(self):
        source = random.Random(6)
        two_in_one = never = later = 0
        for k in range(600):
            slices = draw_slices(source, 4, 5, source.choice([1, 2, 3, 5]), 8)
            x, y, t = source.randint(-15, 15), source.randint(-15, 15), source.randint(0, 10)
            with self.subTest(slices=slices, x=x, y=y, t=t):
                sailed = self.check_way(slices, x, y, t)
            never += sailed is None
            places = [number for number, velocity, lasting in sailed or []]
            two_in_one += len(places) > len(set(places))
            later += len(set(places)) > 1
        self.assertGreater(min(two_in_one, never, later), 50)

    def test_large(self):
        source = random.Random(7)
        for k in range(60):
            slices = draw_slices(source, 12, 24, 1000, 1500)
            x, y = source.randint(-FURTHEST, FURTHEST), source.randint(-FURTHEST, FURTHEST)
            with self.subTest(slices=slices, x=x, y=y):
                self.check_way(slices, x, y, source.randint(0, 1500))

    def test_ends_of_the_ranges(self):
        corners = [(1000, 1000), (-1000, 999), (-999, -1000), (1000, -998)]
        slices = [(k * 50 if k < 11 else LAST_TIME, corners[k % 3:] + [(k, 7)]) for k in range(12)]
        for x, y, t in ((FURTHEST, FURTHEST, 0), (-FURTHEST, FURTHEST, 0), (-FURTHEST, -FURTHEST, 1),
                        (FURTHEST, -FURTHEST, 499), (FURTHEST, 1, LAST_TIME)):
            with self.subTest(x=x, y=y, t=t):
                self.check_way(slices, x, y, t)


class RefusalTest(unittest.TestCase):
    def test_out_of_range(self):
        made = slice_call(0, *SQUARE)
        for bad in (FURTHEST + 1, -FURTHEST - 1, HUGE, -HUGE):
            self.assertEqual(ask(made, way(bad, 0, 0), way(0, bad, 0))[1:], [[-1], [-1]])
        for bad in (-1, LAST_TIME + 1, HUGE, -HUGE):
            self.assertEqual(ask_last(made, way(0, 0, bad)), [-1])
        for good in (FURTHEST, -FURTHEST):
            told = ask(made, way(good, 0, LAST_TIME), way(0, good, 0))
            self.assertEqual([numbers[0] for numbers in told[1:]], [2, 2])

    def test_no_slice_at_all(self):
        self.assertEqual(ask_last(way(0, 0, 0)), [-4])

    def test_never(self):
        self.assertEqual(ask_of(EAST_THEN_NORTH, way(5, 1, 0), way(-1, 0, 0), way(1, 0, 4)), [[-6]] * 3)

    def test_in_order(self):
        self.assertEqual(ask(way(FURTHEST + 1, 0, 0), way(0, 0, LAST_TIME + 1), way(5, 5, 0)), [[-1], [-1], [-4]])
        self.assertEqual(ask_of(EAST_THEN_NORTH, way(-FURTHEST - 1, 0, 0), way(-1, 0, -1)), [[-1], [-1]])

    def test_changes_nothing(self):
        good = [2, 0, 1, 0, *text("4/1"), 1, 0, 1, *text("4/1")]
        told = ask_of(EAST_THEN_NORTH, way(4, 4, 0), way(5, 1, 0), way(4, 4, -1), way(4, 4, 0))
        self.assertEqual(told, [good, [-6], [-1], good])


if __name__ == "__main__":
    unittest.main()
