"""The slices of time that there are, and what is the same for every way through them."""

from soonways.directions import all_directions
from soonways.hulls import hull_corners, hull_support


def support_row(corners, directions):
    return [hull_support(corners, direction) for direction in directions]


class Forecast:
    def __init__(self):
        self.begins = []
        self.hulls = []
        self.directions = None
        self.supports = None
        self.joined = None

    def forget_slices(self):
        self.begins = []
        self.hulls = []
        self.forget_findings()

    def add_slice(self, begin, velocities):
        self.begins.append(begin)
        self.hulls.append(hull_corners(velocities))
        self.forget_findings()

    # What was worked out of the slices holds only till they change.
    def forget_findings(self):
        self.directions = None
        self.supports = None
        self.joined = None

    def has_slice(self, number):
        return 0 <= number < len(self.begins)

    def is_empty(self):
        return len(self.begins) == 0

    # The directions, and each slice's row of supports in them, stay the same till the slices change:
    # to work them out for each way anew would be most of the work.
    def weigh_directions(self):
        if self.directions is None:
            self.directions = all_directions(self.hulls)
            self.supports = [support_row(corners, self.directions) for corners in self.hulls]

    # One slice alone with the velocities of all slices; kept for the same reason.
    def as_one_slice(self):
        if self.joined is None:
            velocities = []
            for corners in self.hulls:
                velocities.extend(corners)
            self.joined = lone_slice(velocities)
        return self.joined


def lone_slice(velocities):
    forecast = Forecast()
    forecast.add_slice(0, velocities)
    return forecast
