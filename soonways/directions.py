"""The directions in which it is looked whether one can have come far enough."""

from soonways.hulls import hull_sides
from soonways.ratios import greatest_divisor

AXES = ((1, 0), (0, 1), (-1, 0), (0, -1))


def lowest_direction(a, b):
    divisor = greatest_divisor(a, b)
    return (a // divisor, b // divisor)


def hull_directions(corners):
    sides = hull_sides(corners)
    looked_at = [(y, -x) for x, y in sides]
    if len(corners) == 2:
        # A line has no side at its ends: how far it goes is seen only along it, there and back.
        looked_at = looked_at + sides
    return [lowest_direction(a, b) for a, b in looked_at]


def all_directions(hulls):
    # A dict keeps the order in which keys came; a key that comes again stays where it was.
    known = {}
    for corners in hulls:
        for direction in hull_directions(corners):
            known[direction] = True
    for axis in AXES:
        known[axis] = True
    return list(known)
