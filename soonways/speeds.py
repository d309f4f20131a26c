"""How fast one can be in a direction with the velocities of one hull."""

from soonways.arrivals import least_time
from soonways.forecast import lone_slice


# The greatest fraction r such that r times (a, b) lies in the hull.
# To go (a, b) in the least time is to make good just that: it is one over the time.
def greatest_speed(corners, a, b):
    arrival = least_time(lone_slice(corners), a, b, (0, 1))
    if not arrival.happens():
        return (0, 1)
    time = arrival.time()
    return (time[1], time[0])
