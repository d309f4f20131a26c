"""Hulls: one is the list of its corners, leftwards round from the lowest (of several the one furthest west)."""


# Above 0 where q points to the left of p, below 0 where to the right.
def cross(p, q):
    return p[0] * q[1] - p[1] * q[0]


# In the direction's own measure: it need not have the length 1.
def how_far(direction, velocity):
    return direction[0] * velocity[0] + direction[1] * velocity[1]


def difference(p, q):
    return (q[0] - p[0], q[1] - p[1])


def bends_left(p, q, r):
    return cross(difference(p, q), difference(q, r)) > 0


# A place in the middle of a side is no corner: going straight on is no bend, and so it is dropped.
def left_chain(points):
    kept = []
    for point in points:
        while len(kept) > 1 and not bends_left(kept[-2], kept[-1], point):
            kept.pop()
        kept.append(point)
    return kept


def hull_corners(velocities):
    # Turned round for the sorting, so that the lowest comes first, and of several the one furthest west.
    turned = [(0, 0)] + [(y, x) for x, y in velocities]
    points = [(x, y) for y, x in sorted(set(turned))]
    if len(points) == 1:
        return points
    right_side = left_chain(points)
    left_side = left_chain(list(reversed(points)))
    # Each chain ends where the other one begins.
    return right_side[:-1] + left_side[:-1]


# Each corner beside the one behind it, the last beside the first.
def neighbours(corners):
    return list(zip(corners, corners[1:] + corners[:1]))


# With two corners these are two, there and back.
def hull_sides(corners):
    if len(corners) == 1:
        return []
    return [difference(p, q) for p, q in neighbours(corners)]


def holds_origin_within(corners):
    if len(corners) < 3:
        return False
    # (0, 0) is to the left of a side just where the side's end points to the left of its beginning.
    return all([cross(p, q) > 0 for p, q in neighbours(corners)])


# What is greatest in a convex figure is so at one of its corners.
def hull_support(corners, direction):
    return max([how_far(direction, corner) for corner in corners])


def furthest_corners(corners, direction):
    furthest = hull_support(corners, direction)
    return [corner for corner in corners if how_far(direction, corner) == furthest]
