"""The example, and how calls are handed in and answers given back."""

import contextlib
import inspect
import io
import unittest

import soonways
import soonways.winds
from soonways.winds import answers
from tests.helper import ALL, BEGIN, SLICES, ask, bound, check, course, forecast, hull, inside, least, reach
from tests.helper import set_call, slice_call, speed, support, way

EXAMPLE = [1, 0, 2, 1, 0, 1, 4, 2, 0, 1, 5, 4, 4, 0, 5, 5, 1, 0]
EXAMPLE_ANSWERS = [1, 1, 1, 2, 8, 1, 1, 0, 1, 3, 56, 47, 49, 3, 0, 1, 0]

EVERY_CALL = (
    slice_call(0, (3, 1), (-2, 5)) + slice_call(7, (0, -4), (1, 1), (-3, 0)) + slice_call(7, (1, 1))
    + hull(0) + hull(5) + inside(1) + support(1, 3, -7) + support(1, 1001, 0)
    + least(-20, 31, 2) + way(-20, 31, 2) + way(10 ** 7, 0, 0) + reach(-20, 31, 2, 40)
    + set_call(3, 9) + course(1, (5, 5), (6, 7), (-4, 9)) + ALL + bound((5, 5), (6, 7), (-4, 9)) + bound((0, 0))
    + check(1, (3, 1, 2), (1, 6, 3)) + check(1, (3, 1, 0)) + speed(0, 1, 6) + speed(1, 0, 0) + SLICES
    + BEGIN + hull(0) + SLICES
)


class ExampleTest(unittest.TestCase):
    def test_example(self):
        self.assertEqual(answers(EXAMPLE), EXAMPLE_ANSWERS)


class InterfaceTest(unittest.TestCase):
    def test_name_and_argument(self):
        self.assertEqual(list(inspect.signature(soonways.winds.answers).parameters), ["calls"])
        self.assertEqual(soonways.winds.answers.__module__, "soonways.winds")

    def test_list_of_plain_whole_numbers(self):
        told = answers(EVERY_CALL)
        self.assertIs(type(told), list)
        self.assertEqual({type(number) for number in told}, {int})

    def test_each_answer_has_its_count(self):
        self.assertEqual(answers(BEGIN), [1, 0])
        self.assertEqual(answers(BEGIN + hull(0) + BEGIN), [1, 0, 1, -2, 1, 0])
        self.assertEqual(answers(slice_call(0, (2, 0), (0, 2)) + hull(0)), [1, 1, 7, 3, 0, 0, 2, 0, 0, 2])

    def test_how_each_later_call_is_handed_in(self):
        made = [1, 0, 2, 2, 0]
        self.assertEqual(answers(made + [8, 1, 4] + [0]), [1, 1, 5, 2, 0, 0, 6, 0, 1, 0])
        self.assertEqual(answers(made + [9, 5, 4, 1, 1, 2, 1] + [0]), [1, 1, 6, 1, 4, 49, 49, 47, 50, 1, 0])
        self.assertEqual(answers(made + [10] + [0]), [1, 1, 5, 2, 0, 0, 2, 0, 1, 0])
        self.assertEqual(answers(made + [11, 4, 1, 1, 2, 1] + [0]), [1, 1, 5, 0, 3, 49, 47, 50, 1, 0])
        self.assertEqual(answers(made + [12, 5, 6, 2, 0, 6, 9, 0, 7] + [0]), [1, 1, 2, 1, 1, 1, 0])
        self.assertEqual(answers(made + [12, 5, 3, 2, 0, 6] + [0]), [1, 1, 1, 0, 1, 0])
        self.assertEqual(answers(made + [13, 0, 3, 0] + [0]), [1, 1, 5, 0, 3, 50, 47, 51, 1, 0])
        self.assertEqual(answers(made + [14] + [0]), [1, 1, 2, 1, 0, 1, 0])

    def test_empty_lists(self):
        self.assertEqual(answers([9, 0, 0, 11, 0, 12, 0, 0, 1, 0, 0, 14]), [1, -1, 1, -1, 1, -1, 1, -1, 1, 0])

    def test_handed_in_is_not_changed(self):
        calls = list(EVERY_CALL)
        answers(calls)
        self.assertEqual(calls, EVERY_CALL)

    def test_handed_in_is_not_changed_for_a_while(self):
        class Guarded(list):
            def refuse(self, *arguments):
                raise AssertionError("changed")

            __setitem__ = __delitem__ = __iadd__ = __imul__ = refuse
            append = extend = insert = pop = remove = clear = sort = reverse = refuse

        self.assertEqual(answers(Guarded(EVERY_CALL)), answers(EVERY_CALL))

    def test_second_time_gives_the_same(self):
        first = answers(list(EVERY_CALL))
        answers(EXAMPLE)
        self.assertEqual(answers(list(EVERY_CALL)), first)

    def test_nothing_is_kept_for_the_next_time(self):
        answers(slice_call(0, (1, 0)))
        self.assertEqual(answers(hull(0)), [1, -2])
        self.assertEqual(answers(slice_call(0, (1, 0))), [1, 1])

    def test_answer_is_a_list_of_its_own(self):
        first = answers(EXAMPLE)
        first.append(99)
        self.assertEqual(answers(EXAMPLE), EXAMPLE_ANSWERS)

    def test_nothing_is_printed(self):
        out, err = io.StringIO(), io.StringIO()
        with contextlib.redirect_stdout(out), contextlib.redirect_stderr(err):
            answers(EVERY_CALL)
        self.assertEqual((out.getvalue(), err.getvalue()), ("", ""))

    def test_hundred_calls(self):
        self.assertEqual(ask(*[BEGIN] * 100), [[0]] * 100)
        calls = forecast([(0, [(1, 0)]), (4, [(0, 1)])])
        told = ask(*calls, *[least(4, 4, 0)] * 98)
        self.assertEqual(told[2:], [[1, 1, 0, 1, 3, 56, 47, 49]] * 98)

    def test_as_many_numbers_as_there_may_be(self):
        """A hundred calls with lists as long as they may be are well within 16000 numbers."""
        row = [(k, -k) for k in range(30)]
        calls = [slice_call(0, (1, 0), (0, -1))] + [course(0, *row)] * 33 + [bound(*row)] * 33
        calls += [check(0, *[(k, 0, k) for k in range(20)])] * 33
        told = ask(*calls)
        self.assertEqual(len(told), 100)
        self.assertEqual([numbers[0] for numbers in told[1:]], [29] * 33 + [0] * 66)

    def test_many_long_slices(self):
        long = slice_call(0, *[(k, k * k) for k in range(-12, 12)])
        told = ask(*[call for k in range(50) for call in (BEGIN, long)])
        self.assertEqual(told, [[0], [1]] * 50)


if __name__ == "__main__":
    unittest.main()
