"""A way that is as fast as the least time."""

from soonways.arrivals import stretches
from soonways.hulls import cross, furthest_corners
from soonways.ratios import lowest_terms


# For each slice that one is in till the arrival: its number, and how long.
# That is counted in parts of a second, as many as the arrival's lower number says, so that it is whole.
def sailed_spans(begins, t, arrival):
    spans = []
    for number, since, lasting in stretches(begins, t):
        if number < arrival.number:
            spans.append((number, lasting * arrival.takes[1]))
    spans.append((arrival.number, arrival.takes[0]))
    return spans


# Of the corners furthest in a direction the one furthest to its right, and the one furthest to its left.
def outer_corners(corners, direction):
    ahead = furthest_corners(corners, direction)
    right = min(ahead, key=lambda corner: cross(direction, corner))
    left = max(ahead, key=lambda corner: cross(direction, corner))
    return (right, left)


# The slice's number, how long one is in it, and the right and the left velocity that one sails in it.
def sailed_slices(forecast, t, arrival):
    found = []
    for number, span in sailed_spans(forecast.begins, t, arrival):
        outer = outer_corners(forecast.hulls[number], arrival.proof)
        found.append((number, span, outer[0], outer[1]))
    return found


def add_piece(pieces, number, velocity, upper, lower):
    if upper > 0 and velocity != (0, 0):
        pieces.append((number, velocity, lowest_terms(upper, lower)))


# The pieces of the way: for each the slice's number, the velocity, and how long as a fraction.
def way_pieces(forecast, x, y, t, arrival):
    proof = arrival.proof
    parts = arrival.takes[1]
    sailed = sailed_slices(forecast, t, arrival)
    # How far one would be short of (x, y) to the left, with right velocities alone, counted in the spans' parts.
    missing = cross(proof, (x, y)) * parts - sum([cross(proof, right) * span for number, span, right, left in sailed])
    pieces = []
    for number, span, right, left in sailed:
        gain = cross(proof, left) - cross(proof, right)
        made_up = min(missing, gain * span)
        missing = missing - made_up
        # Where right and left are the same nothing is made up: any lower number above 0 does.
        share = max(gain, 1)
        add_piece(pieces, number, right, share * span - made_up, share * parts)
        add_piece(pieces, number, left, made_up, share * parts)
    return pieces
