"""What each call answers: its numbers in their order, or the number of its refusal alone."""

from soonways.arrivals import least_time
from soonways.hulls import holds_origin_within, hull_support
from soonways.ratios import ratio_text
from soonways.ways import way_pieces

OUT_OF_RANGE = -1
NO_SUCH_SLICE = -2
NOT_LATER = -2
TOO_MANY_SLICES = -3
NO_SLICES = -4
NEVER_ARRIVES = -6

LAST_TIME = 1000000
FURTHEST_PLACE = 1000000
FASTEST = 1000
MOST_SLICES = 12
MOST_VELOCITIES = 24


def is_time(t):
    return 0 <= t <= LAST_TIME


def is_place(x):
    return -FURTHEST_PLACE <= x <= FURTHEST_PLACE


# The numbers of a direction that is asked for have the same range as those of a velocity.
def is_speed(a):
    return -FASTEST <= a <= FASTEST


def are_velocities(numbers):
    if len(numbers) % 2 == 1 or not 1 <= len(numbers) // 2 <= MOST_VELOCITIES:
        return False
    return all([is_speed(number) for number in numbers])


def may_begin(begins, t):
    if len(begins) == 0:
        return t == 0
    return t > begins[-1]


# Why one can't be asked to go (x, y) from t on; None if one can.
def task_refusal(forecast, x, y, t):
    if not is_place(x) or not is_place(y) or not is_time(t):
        return OUT_OF_RANGE
    if len(forecast.begins) == 0:
        return NO_SLICES
    return None


def text_reply(text):
    return [len(text)] + [ord(sign) for sign in text]


def reply_begin(forecast):
    forecast.forget_slices()
    return [0]


def reply_slice(forecast, t, numbers):
    if not is_time(t) or not are_velocities(numbers):
        return [OUT_OF_RANGE]
    if not may_begin(forecast.begins, t):
        return [NOT_LATER]
    if len(forecast.begins) == MOST_SLICES:
        return [TOO_MANY_SLICES]
    velocities = [(numbers[k], numbers[k + 1]) for k in range(0, len(numbers), 2)]
    forecast.add_slice(t, velocities)
    return [len(forecast.begins)]


def reply_hull(forecast, i):
    if not forecast.has_slice(i):
        return [NO_SUCH_SLICE]
    corners = forecast.hulls[i]
    reply = [len(corners)]
    for corner in corners:
        reply.extend(corner)
    return reply


def reply_inside(forecast, i):
    if not forecast.has_slice(i):
        return [NO_SUCH_SLICE]
    return [1 if holds_origin_within(forecast.hulls[i]) else 0]


def reply_support(forecast, i, a, b):
    if not is_speed(a) or not is_speed(b):
        return [OUT_OF_RANGE]
    if not forecast.has_slice(i):
        return [NO_SUCH_SLICE]
    return [hull_support(forecast.hulls[i], (a, b))]


def reply_least(forecast, x, y, t):
    refusal = task_refusal(forecast, x, y, t)
    if refusal is not None:
        return [refusal]
    arrival = least_time(forecast, x, y, t)
    if not arrival.happens():
        return [0] + list(arrival.proof)
    return [1, arrival.number] + list(arrival.proof) + text_reply(ratio_text(arrival.time()))


def reply_way(forecast, x, y, t):
    refusal = task_refusal(forecast, x, y, t)
    if refusal is not None:
        return [refusal]
    arrival = least_time(forecast, x, y, t)
    if not arrival.happens():
        return [NEVER_ARRIVES]
    pieces = way_pieces(forecast, x, y, t, arrival)
    reply = [len(pieces)]
    for number, velocity, lasting in pieces:
        reply.append(number)
        reply.extend(velocity)
        reply.extend(text_reply(ratio_text(lasting)))
    return reply


def reply_reach(forecast, x, y, t, u):
    if not is_time(u) or u < t:
        return [OUT_OF_RANGE]
    refusal = task_refusal(forecast, x, y, t)
    if refusal is not None:
        return [refusal]
    return [1 if least_time(forecast, x, y, t).happens_by(u) else 0]
