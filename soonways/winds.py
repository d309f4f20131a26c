"""The interface: a list of calls is handed in, a list of answers is given back."""

from soonways.forecast import Forecast
from soonways.replies import reply_begin, reply_hull, reply_inside, reply_least
from soonways.replies import reply_reach, reply_slice, reply_support, reply_way

# By a call's number: how many whole numbers stand behind that, ahead of its list if it has one.
PLAIN_NUMBERS = (0, 1, 1, 1, 3, 3, 3, 4)
CALLS_WITH_LIST = (1,)


def call_end(calls, at):
    number = calls[at]
    end = at + 1 + PLAIN_NUMBERS[number]
    if number in CALLS_WITH_LIST:
        return end + 1 + calls[end]
    return end


def reply_to(forecast, call):
    number = call[0]
    if number == 0:
        return reply_begin(forecast)
    if number == 1:
        return reply_slice(forecast, call[1], call[3:])
    if number == 2:
        return reply_hull(forecast, call[1])
    if number == 3:
        return reply_inside(forecast, call[1])
    if number == 4:
        return reply_support(forecast, call[1], call[2], call[3])
    if number == 5:
        return reply_least(forecast, call[1], call[2], call[3])
    if number == 6:
        return reply_way(forecast, call[1], call[2], call[3])
    return reply_reach(forecast, call[1], call[2], call[3], call[4])


def answers(calls):
    forecast = Forecast()
    told = []
    at = 0
    while at < len(calls):
        end = call_end(calls, at)
        reply = reply_to(forecast, calls[at:end])
        told.append(len(reply))
        told.extend(reply)
        at = end
    return told
