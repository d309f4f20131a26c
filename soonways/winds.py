"""The interface: a list of calls is handed in, a list of answers is given back."""

from soonways.forecast import Forecast
from soonways.replies import reply_all, reply_begin, reply_bound, reply_check, reply_course
from soonways.replies import reply_hull, reply_inside, reply_least, reply_reach, reply_set
from soonways.replies import reply_slice, reply_slices, reply_speed, reply_support, reply_way

# By a call's number: how many whole numbers stand behind that, ahead of its list if it has one.
PLAIN_NUMBERS = (0, 1, 1, 1, 3, 3, 3, 4, 2, 1, 0, 0, 1, 3, 0)
CALLS_WITH_LIST = (1, 9, 11, 12)


def call_end(calls, at):
    number = calls[at]
    end = at + 1 + PLAIN_NUMBERS[number]
    if number in CALLS_WITH_LIST:
        return end + 1 + calls[end]
    return end


# The calls up to reach.
def reply_to_early(forecast, call):
    number = call[0]
    if number == 0:
        return reply_begin(forecast)
    if number == 1:
        return reply_slice(forecast, call[1], call[3:])
    if number == 2:
        return reply_hull(forecast, call[1])
    if number == 3:
        return reply_inside(forecast, call[1])
    if number == 4:
        return reply_support(forecast, call[1], call[2], call[3])
    if number == 5:
        return reply_least(forecast, call[1], call[2], call[3])
    if number == 6:
        return reply_way(forecast, call[1], call[2], call[3])
    return reply_reach(forecast, call[1], call[2], call[3], call[4])


# The calls from set on.
def reply_to_late(forecast, call):
    number = call[0]
    if number == 8:
        return reply_set(forecast, call[1], call[2])
    if number == 9:
        return reply_course(forecast, call[1], call[3:])
    if number == 10:
        return reply_all(forecast)
    if number == 11:
        return reply_bound(forecast, call[2:])
    if number == 12:
        return reply_check(forecast, call[1], call[3:])
    if number == 13:
        return reply_speed(forecast, call[1], call[2], call[3])
    return reply_slices(forecast)


def reply_to(forecast, call):
    if call[0] < 8:
        return reply_to_early(forecast, call)
    return reply_to_late(forecast, call)


def answers(calls):
    forecast = Forecast()
    told = []
    at = 0
    while at < len(calls):
        end = call_end(calls, at)
        reply = reply_to(forecast, calls[at:end])
        told.append(len(reply))
        told.extend(reply)
        at = end
    return told
