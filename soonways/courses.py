"""Rows of places, sailed leg by leg, and claims to have been at places."""

from soonways.arrivals import least_time


# When each leg arrives, up to the first that never does; the beginning and the arrivals are fractions.
def leg_times(forecast, start, places):
    times = []
    now = start
    for here, there in zip(places, places[1:]):
        arrival = least_time(forecast, there[0] - here[0], there[1] - here[1], now)
        if not arrival.happens():
            return times
        now = arrival.time()
        times.append(now)
    return times


# The time of a row if there were one slice alone with all velocities; None if it never arrives.
def row_bound(forecast, places):
    times = leg_times(forecast.as_one_slice(), (0, 1), places)
    if len(times) < len(places) - 1:
        return None
    return times[-1]


# A claim is a place's two numbers and a time.
def are_in_order(t, claims):
    times = [t] + [u for x, y, u in claims]
    return all([sooner <= later for sooner, later in zip(times, times[1:])])


def can_follow(forecast, before, claim):
    arrival = least_time(forecast, claim[0] - before[0], claim[1] - before[1], (before[2], 1))
    return arrival.happens_by(claim[2])


# Counted from 0; None if each claim can be.
def first_false_claim(forecast, t, claims):
    before = (0, 0, t)
    for count, claim in enumerate(claims):
        if not can_follow(forecast, before, claim):
            return count
        before = claim
    return None
