"""Lists of all fifteen calls: each is answered as by itself, and as the words say."""

import random
import unittest

from soonways.winds import answers
from tests.helper import ALL, BEGIN, HUGE, SLICES, ask, bound_numbers, check_numbers, course_numbers, flat, hull, inside
from tests.helper import least, reach, set_call, slice_numbers, speed, split, support, way
from tests.model import tell

EDGES = [-1, 0, 1, 1000, 1001, -1000, -1001, 1000000, 1000001, -1000000, -1000001, HUGE, -HUGE]


class Drawer:
    """Draws calls that are mostly good, now and then with a number at an edge or a list of a wrong length."""

    def __init__(self, seed):
        self.source = random.Random(seed)
        self.last_begin = -1

    def number(self, low, high):
        if self.source.randint(0, 25) == 0:
            return self.source.choice(EDGES)
        return self.source.randint(low, high)

    def numbers(self, count, size):
        if self.source.randint(0, 12) == 0:
            count = self.source.randint(0, 9)
        return [self.number(-size, size) for k in range(count)]

    def slice(self):
        begin = self.last_begin + self.source.randint(1, 5)
        if self.last_begin < 0 or self.source.randint(0, 9) == 0:
            begin = 0
        self.last_begin = max(begin, self.last_begin)
        count = self.source.randint(1, 4)
        return slice_numbers(self.number(begin, begin), self.numbers(2 * count, self.source.choice([1, 3])))

    def span(self):
        t = self.number(0, 12)
        return t, self.number(t - 1 if self.source.randint(0, 9) == 0 else t, t + 9)

    def begin(self):
        self.last_begin = -1
        return BEGIN

    def claims(self):
        t, numbers = self.number(0, 5), []
        u = t
        for k in range(self.source.randint(1, 4)):
            u += self.source.randint(0, 5)
            numbers += [self.number(-3, 3), self.number(-3, 3), self.number(u, u)]
        if self.source.randint(0, 9) == 0:
            numbers = self.source.choice([numbers[:-1], numbers[1:], numbers + [0], numbers[::-1]])
        return check_numbers(t, numbers)

    def call(self, kind):
        i = self.number(-1, 4)
        x, y = self.number(-9, 9), self.number(-9, 9)
        a, b = self.number(-4, 4), self.number(-4, 4)
        t, u = self.span()
        places = self.numbers(2 * self.source.randint(2, 5), 6)
        plain = {2: hull(i), 3: inside(i), 4: support(i, a, b), 5: least(x, y, t), 6: way(x, y, t),
                 7: reach(x, y, t, u), 8: set_call(t, u), 9: course_numbers(t, places), 10: ALL,
                 11: bound_numbers(places), 13: speed(i, a, b), 14: SLICES}
        if kind in plain:
            return plain[kind]
        return {0: self.begin, 1: self.slice, 12: self.claims}[kind]()

    def calls(self, count):
        found = []
        while len(found) < count:
            kind = self.source.randint(0, 14)
            if kind == 0 and self.source.randint(0, 2) > 0:
                kind = 1
            found.append(self.call(kind))
        return found


class MixedTest(unittest.TestCase):
    def test_word_by_word(self):
        kinds = {}
        for seed in range(60):
            drawer = Drawer(seed)
            calls = drawer.calls(drawer.source.choice([1, 5, 30, 100]))
            with self.subTest(seed=seed):
                told = ask(*calls)
                for call, numbers, right in zip(calls, told, tell(calls)):
                    self.assertEqual(numbers, right, call)
            for call, numbers in zip(calls, told):
                kind = (call[0], min(numbers[0], 0))
                kinds[kind] = kinds.get(kind, 0) + 1
        refusals = {1: (-1, -2), 2: (-2,), 3: (-2,), 4: (-1, -2), 5: (-1, -4), 6: (-1, -4, -6), 7: (-1, -4),
                    8: (-1, -4), 9: (-1, -4), 10: (-4,), 11: (-1, -4, -6), 12: (-1, -5, -4), 13: (-1, -2)}
        for number in range(15):
            for refusal in (0, *refusals.get(number, ())):
                self.assertGreater(kinds.get((number, refusal), 0), 0, (number, refusal))

    def test_as_one_by_one(self):
        """Each call by itself, behind the calls that begin and that make slices."""
        for seed in range(100, 104):
            calls = Drawer(seed).calls(100)
            told = ask(*calls)
            makers = []
            for call, numbers in zip(calls, told):
                with self.subTest(seed=seed, call=call):
                    self.assertEqual(ask(*makers, call)[-1], numbers)
                if call[0] in (0, 1):
                    makers.append(call)

    def test_what_is_only_asked_may_be_left_out(self):
        for seed in range(200, 220):
            calls = Drawer(seed).calls(100)
            told = ask(*calls)
            kept = [k for k in range(100) if calls[k][0] in (0, 1) or k % 3 == seed % 3]
            self.assertEqual(ask(*[calls[k] for k in kept]), [told[k] for k in kept])

    def test_what_is_refused_may_be_left_out(self):
        for seed in range(300, 320):
            calls = Drawer(seed).calls(100)
            told = ask(*calls)
            kept = [k for k in range(100) if told[k][0] >= 0]
            self.assertEqual(ask(*[calls[k] for k in kept]), [told[k] for k in kept])

    def test_twice_and_as_it_was(self):
        for seed in range(400, 420):
            calls = flat(Drawer(seed).calls(100))
            handed_in = list(calls)
            first = answers(handed_in)
            self.assertEqual(handed_in, calls)
            self.assertEqual(len(split(first)), 100)
            self.assertEqual(answers(handed_in), first)
            self.assertEqual({number.__class__ for number in first}, {int})


if __name__ == "__main__":
    unittest.main()
