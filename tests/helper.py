"""Calls as they are handed in, answers as they are read, and cases that are drawn."""

import math
from fractions import Fraction

from soonways.winds import answers

BEGIN = [0]
ALL = [10]
SLICES = [14]

LAST_TIME = 1000000
FURTHEST = 1000000
FASTEST = 1000
HUGE = 10 ** 18


def slice_call(t, *velocities):
    return slice_numbers(t, flat(velocities))


def slice_numbers(t, numbers):
    return [1, t, len(numbers)] + numbers


def hull(i):
    return [2, i]


def inside(i):
    return [3, i]


def support(i, a, b):
    return [4, i, a, b]


def least(x, y, t):
    return [5, x, y, t]


def way(x, y, t):
    return [6, x, y, t]


def reach(x, y, t, u):
    return [7, x, y, t, u]


def flat(tuples):
    return [number for numbers in tuples for number in numbers]


def set_call(t, u):
    return [8, t, u]


def course(t, *places):
    return course_numbers(t, flat(places))


def course_numbers(t, numbers):
    return [9, t, len(numbers)] + numbers


def bound(*places):
    return bound_numbers(flat(places))


def bound_numbers(numbers):
    return [11, len(numbers)] + numbers


def check(t, *claims):
    return check_numbers(t, flat(claims))


def check_numbers(t, numbers):
    return [12, t, len(numbers)] + numbers


def speed(i, a, b):
    return [13, i, a, b]


def forecast(slices):
    """The calls that make slices of (when it begins, its velocities)."""
    return [slice_call(begin, *velocities) for begin, velocities in slices]


def split(told):
    """The answers of each call, taken apart by their counts."""
    found = []
    at = 0
    while at < len(told):
        found.append(told[at + 1:at + 1 + told[at]])
        at += 1 + told[at]
    return found


def ask(*calls):
    """The answers of all calls, a list for each."""
    found = split(answers(flat(calls)))
    if len(found) != len(calls):
        raise AssertionError((calls, found))
    return found


def ask_last(*calls):
    return ask(*calls)[-1]


def ask_of(slices, *calls):
    """The answers of the calls alone, behind those that make the slices."""
    return ask(*forecast(slices), *calls)[len(slices):]


def text(words):
    """A text as it stands in an answer."""
    return [len(words)] + [ord(sign) for sign in words]


def read_fraction(numbers):
    """The fraction that numbers begin with as a text, held to its form, and what stands behind it."""
    words = "".join(chr(number) for number in numbers[1:1 + numbers[0]])
    upper, lower = words.split("/")
    value = Fraction(int(upper), int(lower))
    if words != f"{value.numerator}/{value.denominator}":
        raise AssertionError(words)
    return value, numbers[1 + numbers[0]:]


def read_least(answer):
    """(slice, proof, time) of an arrival, (None, proof, None) of a never."""
    if answer[0] == 0:
        if len(answer) != 3:
            raise AssertionError(answer)
        return None, tuple(answer[1:]), None
    time, rest = read_fraction(answer[4:])
    if answer[0] != 1 or rest:
        raise AssertionError(answer)
    return answer[1], tuple(answer[2:4]), time


def read_way(answer):
    """The pieces (slice, velocity, how long) of a way."""
    pieces = []
    rest = answer[1:]
    while rest:
        number, velocity = rest[0], tuple(rest[1:3])
        lasting, rest = read_fraction(rest[3:])
        pieces.append((number, velocity, lasting))
    if len(pieces) != answer[0]:
        raise AssertionError(answer)
    return pieces


def read_corners(answer):
    """The corners, held to their count."""
    found = [tuple(answer[k:k + 2]) for k in range(1, len(answer), 2)]
    if len(answer) != 1 + 2 * answer[0]:
        raise AssertionError(answer)
    return found


def read_course(answer):
    """The time of each leg that is sailed."""
    times = []
    rest = answer[1:]
    while rest:
        time, rest = read_fraction(rest)
        times.append(time)
    if len(times) != answer[0]:
        raise AssertionError(answer)
    return times


def read_one(answer):
    """The fraction of a bound or a speed, which stands behind a 0."""
    value, rest = read_fraction(answer[1:])
    if answer[0] != 0 or rest:
        raise AssertionError(answer)
    return value


def read_bound(answer):
    return None if answer == [-6] else read_one(answer)


def draw_velocity(source, size):
    return (source.randint(-size, size), source.randint(-size, size))


def draw_places(source, count, size):
    """Places with now and then the same one twice."""
    places = [draw_velocity(source, size)]
    while len(places) < count:
        places.append(places[-1] if source.randint(0, 7) == 0 else draw_velocity(source, size))
    return places


def round_slices():
    """Twelve slices, each of twenty-four velocities all round, with hardly a side like another."""
    angles = [[math.tau * (j + k / 12) / 24 for j in range(24)] for k in range(12)]
    return [(k, [(round(1000 * math.cos(angle)), round(1000 * math.sin(angle))) for angle in angles[k]])
            for k in range(12)]


def draw_slices(source, most_slices, most_velocities, size, last_begin):
    """Slices with begins and velocities drawn, now and then all on one line or all at rest."""
    count = source.randint(1, most_slices)
    begins = [0] + sorted(source.sample(range(1, last_begin + 1), count - 1))
    slices = []
    for begin in begins:
        velocities = [draw_velocity(source, size) for k in range(source.randint(1, most_velocities))]
        kind = source.randint(0, 9)
        if kind == 0:
            velocities = [(0, 0)]
        elif kind <= 2:
            x, y = draw_velocity(source, 1)
            velocities = [(x * k, y * k) for k in range(source.randint(-size, 0), source.randint(1, size))]
            velocities = velocities[:most_velocities]
        slices.append((begin, velocities))
    return slices
