"""The set of all places to which one can have gone by a time, told by its corners."""

from soonways.arrivals import stretches
from soonways.hulls import cross, hull_sides


def total(p, q):
    return (p[0] + q[0], p[1] + q[1])


def stretched(p, times):
    return (p[0] * times, p[1] * times)


# For each slice that one is in between t and u: its number, and how long.
def spans_between(begins, t, u):
    spans = []
    for number, since, lasting in stretches(begins, t):
        span = u - since
        if lasting is not None:
            span = min(span, lasting)
        if span > 0:
            spans.append((number, span))
    return spans


# Round a figure sides turn leftwards from the east on, each from the one before by half a turn at most.
# So of the next sides of two figures none is half a turn ahead, and the other lies to the left of the first.
def comes_before(p, q):
    return cross(p, q) > 0


# The sides of two figures in one order; two that lie alike are one side, for no corner is between them.
def merged_sides(ones, others):
    merged = []
    i = 0
    j = 0
    while i < len(ones) and j < len(others):
        if comes_before(ones[i], others[j]):
            merged.append(ones[i])
            i = i + 1
        elif comes_before(others[j], ones[i]):
            merged.append(others[j])
            j = j + 1
        else:
            merged.append(total(ones[i], others[j]))
            i = i + 1
            j = j + 1
    return merged + ones[i:] + others[j:]


# The last side leads back to the first corner.
def corners_along(first, sides):
    corners = [first]
    for side in sides[:-1]:
        corners.append(total(corners[-1], side))
    return corners


def set_corners(forecast, t, u):
    # All sums of what one can go in each slice: its first corner is the sum of theirs, and its sides are their sides.
    first = (0, 0)
    sides = []
    for number, span in spans_between(forecast.begins, t, u):
        corners = forecast.hulls[number]
        first = total(first, stretched(corners[0], span))
        sides = merged_sides(sides, [stretched(side, span) for side in hull_sides(corners)])
    return corners_along(first, sides)
