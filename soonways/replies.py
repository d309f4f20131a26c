"""What each call answers: its numbers in their order, or the number of its refusal alone."""

from soonways.areas import set_corners
from soonways.arrivals import least_time
from soonways.courses import are_in_order, first_false_claim, leg_times, row_bound
from soonways.hulls import holds_origin_within, hull_support
from soonways.limits import are_claims, are_places, are_velocities, grouped
from soonways.limits import is_direction, is_place, is_span, is_time, is_velocity
from soonways.ratios import ratio_text
from soonways.speeds import greatest_speed
from soonways.ways import way_pieces

OUT_OF_RANGE = -1
NO_SUCH_SLICE = -2
NOT_LATER = -2
TOO_MANY_SLICES = -3
NO_SLICES = -4
NOT_IN_ORDER = -5
NEVER_ARRIVES = -6

MOST_SLICES = 12


def may_begin(begins, t):
    if len(begins) == 0:
        return t == 0
    return t > begins[-1]


# Why one can't be asked to go (x, y) from t on; None if one can.
def task_refusal(forecast, x, y, t):
    if not is_place(x, y) or not is_time(t):
        return OUT_OF_RANGE
    if forecast.is_empty():
        return NO_SLICES
    return None


def ratio_reply(ratio):
    text = ratio_text(ratio)
    return [len(text)] + [ord(sign) for sign in text]


def corners_reply(corners):
    reply = [len(corners)]
    for corner in corners:
        reply.extend(corner)
    return reply


def reply_begin(forecast):
    forecast.forget_slices()
    return [0]


def reply_slice(forecast, t, numbers):
    if not is_time(t) or not are_velocities(numbers):
        return [OUT_OF_RANGE]
    if not may_begin(forecast.begins, t):
        return [NOT_LATER]
    if len(forecast.begins) == MOST_SLICES:
        return [TOO_MANY_SLICES]
    forecast.add_slice(t, grouped(numbers, 2))
    return [len(forecast.begins)]


def reply_hull(forecast, i):
    if not forecast.has_slice(i):
        return [NO_SUCH_SLICE]
    return corners_reply(forecast.hulls[i])


def reply_inside(forecast, i):
    if not forecast.has_slice(i):
        return [NO_SUCH_SLICE]
    return [1 if holds_origin_within(forecast.hulls[i]) else 0]


def reply_support(forecast, i, a, b):
    if not is_velocity(a, b):
        return [OUT_OF_RANGE]
    if not forecast.has_slice(i):
        return [NO_SUCH_SLICE]
    return [hull_support(forecast.hulls[i], (a, b))]


def reply_least(forecast, x, y, t):
    refusal = task_refusal(forecast, x, y, t)
    if refusal is not None:
        return [refusal]
    arrival = least_time(forecast, x, y, (t, 1))
    if not arrival.happens():
        return [0] + list(arrival.proof)
    return [1, arrival.number] + list(arrival.proof) + ratio_reply(arrival.time())


def reply_way(forecast, x, y, t):
    refusal = task_refusal(forecast, x, y, t)
    if refusal is not None:
        return [refusal]
    arrival = least_time(forecast, x, y, (t, 1))
    if not arrival.happens():
        return [NEVER_ARRIVES]
    pieces = way_pieces(forecast, x, y, t, arrival)
    reply = [len(pieces)]
    for number, velocity, lasting in pieces:
        reply.append(number)
        reply.extend(velocity)
        reply.extend(ratio_reply(lasting))
    return reply


def reply_reach(forecast, x, y, t, u):
    if not is_span(t, u):
        return [OUT_OF_RANGE]
    refusal = task_refusal(forecast, x, y, t)
    if refusal is not None:
        return [refusal]
    return [1 if least_time(forecast, x, y, (t, 1)).happens_by(u) else 0]


def reply_set(forecast, t, u):
    if not is_span(t, u):
        return [OUT_OF_RANGE]
    if forecast.is_empty():
        return [NO_SLICES]
    return corners_reply(set_corners(forecast, t, u))


def reply_course(forecast, t, numbers):
    if not is_time(t) or not are_places(numbers):
        return [OUT_OF_RANGE]
    if forecast.is_empty():
        return [NO_SLICES]
    times = leg_times(forecast, (t, 1), grouped(numbers, 2))
    reply = [len(times)]
    for time in times:
        reply.extend(ratio_reply(time))
    return reply


def reply_all(forecast):
    if forecast.is_empty():
        return [NO_SLICES]
    return corners_reply(forecast.as_one_slice().hulls[0])


def reply_bound(forecast, numbers):
    if not are_places(numbers):
        return [OUT_OF_RANGE]
    if forecast.is_empty():
        return [NO_SLICES]
    bound = row_bound(forecast, grouped(numbers, 2))
    if bound is None:
        return [NEVER_ARRIVES]
    return [0] + ratio_reply(bound)


def reply_check(forecast, t, numbers):
    if not is_time(t) or not are_claims(numbers):
        return [OUT_OF_RANGE]
    claims = grouped(numbers, 3)
    if not are_in_order(t, claims):
        return [NOT_IN_ORDER]
    if forecast.is_empty():
        return [NO_SLICES]
    first = first_false_claim(forecast, t, claims)
    return [0] if first is None else [1, first]


def reply_speed(forecast, i, a, b):
    if not is_direction(a, b):
        return [OUT_OF_RANGE]
    if not forecast.has_slice(i):
        return [NO_SUCH_SLICE]
    return [0] + ratio_reply(greatest_speed(forecast.hulls[i], a, b))


def reply_slices(forecast):
    return [len(forecast.begins)] + forecast.begins
