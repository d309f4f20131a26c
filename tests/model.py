"""Every call answered a second time, word by word, on a plain list of slices: (when it begins, its velocities)."""

from fractions import Fraction

from tests.helper import text
from tests.oracle import bound_by_words, corners_by_pairs, course_by_words, first_false, is_within, joined
from tests.oracle import least_by_words, set_by_sums, spans_by_words, speed_by_crossing, support_by_words

MILLION = 1000000


def tell_fraction(value):
    value = Fraction(value)
    return text(f"{value.numerator}/{value.denominator}")


def tell_corners(corners):
    return [len(corners)] + [number for corner in corners for number in corner]


def in_range(most, *numbers):
    return all(abs(number) <= most for number in numbers)


def are_times(*numbers):
    return all(0 <= number <= MILLION for number in numbers)


def split_list(numbers, size):
    return [tuple(numbers[k:k + size]) for k in range(0, len(numbers), size)]


def is_row(numbers):
    return len(numbers) >= 4 and len(numbers) % 2 == 0 and in_range(MILLION, *numbers)


def tell_begin(slices):
    slices.clear()
    return [0]


def tell_slice(slices, t, numbers):
    if not are_times(t) or len(numbers) not in range(2, 49, 2) or not in_range(1000, *numbers):
        return [-1]
    if t <= (slices[-1][0] if slices else -1) or (not slices and t > 0):
        return [-2]
    if len(slices) >= 12:
        return [-3]
    slices.append((t, split_list(numbers, 2)))
    return [len(slices)]


def tell_hull(slices, i):
    return tell_corners(corners_by_pairs(slices[i][1])) if i in range(len(slices)) else [-2]


def tell_inside(slices, i):
    if i not in range(len(slices)):
        return [-2]
    corners = corners_by_pairs(slices[i][1])
    sides = zip(corners, corners[1:] + corners[:1])
    return [int(len(corners) > 2 and all(p * s > q * r for (p, q), (r, s) in sides))]


def tell_support(slices, i, a, b):
    if not in_range(1000, a, b):
        return [-1]
    return [support_by_words(slices[i][1], a, b)] if i in range(len(slices)) else [-2]


def refusal_of_task(slices, x, y, t):
    if not in_range(MILLION, x, y) or not are_times(t):
        return [-1]
    return None if slices else [-4]


def tell_least(slices, x, y, t):
    if refusal_of_task(slices, x, y, t):
        return refusal_of_task(slices, x, y, t)
    number, proof, time = least_by_words(slices, x, y, t)
    return [0, *proof] if number is None else [1, number, *proof, *tell_fraction(time)]


def tell_way(slices, x, y, t):
    if refusal_of_task(slices, x, y, t):
        return refusal_of_task(slices, x, y, t)
    number, (a, b), time = least_by_words(slices, x, y, t)
    if number is None:
        return [-6]
    sailed = []
    for k, span in spans_by_words(slices, t, time):
        corners = corners_by_pairs(slices[k][1])
        furthest = max(a * p + b * q for p, q in corners)
        ahead = sorted((a * q - b * p, (p, q)) for p, q in corners if a * p + b * q == furthest)
        sailed.append((k, span, ahead[0], ahead[-1]))
    missing = a * y - b * x - sum(right[0] * span for k, span, right, left in sailed)
    pieces = []
    for k, span, right, left in sailed:
        turned = min(Fraction(missing, left[0] - right[0]), span) if right != left else Fraction(0)
        missing -= turned * (left[0] - right[0])
        for velocity, lasting in ((right[1], span - turned), (left[1], turned)):
            if lasting > 0 and velocity != (0, 0):
                pieces.append([k, *velocity, *tell_fraction(lasting)])
    return [len(pieces)] + [number for piece in pieces for number in piece]


def tell_reach(slices, x, y, t, u):
    if not in_range(MILLION, x, y) or not are_times(t, u) or u < t:
        return [-1]
    return [int(is_within(set_by_sums(slices, t, u), (x, y)))] if slices else [-4]


def tell_set(slices, t, u):
    if not are_times(t, u) or u < t:
        return [-1]
    return tell_corners(set_by_sums(slices, t, u)) if slices else [-4]


def tell_course(slices, t, numbers):
    if not are_times(t) or not is_row(numbers):
        return [-1]
    if not slices:
        return [-4]
    times = course_by_words(slices, t, split_list(numbers, 2))
    return [len(times)] + [number for time in times for number in tell_fraction(time)]


def tell_all(slices):
    return tell_corners(corners_by_pairs(joined(slices)[0][1])) if slices else [-4]


def tell_bound(slices, numbers):
    if not is_row(numbers):
        return [-1]
    if not slices:
        return [-4]
    time = bound_by_words(slices, split_list(numbers, 2))
    return [-6] if time is None else [0, *tell_fraction(time)]


def tell_check(slices, t, numbers):
    claims = split_list(numbers, 3)
    if not numbers or len(numbers) % 3 or not are_times(t):
        return [-1]
    if not all(in_range(MILLION, x, y) and are_times(u) for x, y, u in claims):
        return [-1]
    times = [t] + [u for x, y, u in claims]
    if times != sorted(times):
        return [-5]
    if not slices:
        return [-4]
    first = first_false(slices, t, claims)
    return [0] if first is None else [1, first]


def tell_speed(slices, i, a, b):
    if not in_range(1000, a, b) or (a, b) == (0, 0):
        return [-1]
    if i not in range(len(slices)):
        return [-2]
    return [0, *tell_fraction(speed_by_crossing(slices[i][1], a, b))]


def tell_slices(slices):
    return [len(slices)] + [begin for begin, velocities in slices]


# By a call's number: what tells it, and where its list's length stands (None without one).
TELLERS = [
    (tell_begin, None), (tell_slice, 2), (tell_hull, None), (tell_inside, None), (tell_support, None),
    (tell_least, None), (tell_way, None), (tell_reach, None), (tell_set, None), (tell_course, 2), (tell_all, None),
    (tell_bound, 1), (tell_check, 2), (tell_speed, None), (tell_slices, None),
]


def tell(calls):
    """The answer of each call."""
    slices = []
    told = []
    for call in calls:
        teller, place = TELLERS[call[0]]
        arguments = call[1:] if place is None else call[1:place] + [call[place + 1:]]
        told.append(teller(slices, *arguments))
    return told
