"""The least time in which one can have gone somewhere, with its proof."""

from soonways.ratios import lowest_terms


# One arrives in the slice of that number, so long after the time that one is in it from.
# Both are an upper and a lower number; a lower one of 0 stands for longer than any time.
class Arrival:
    def __init__(self, number, since, takes, proof):
        self.number = number
        self.since = since
        self.takes = takes
        self.proof = proof

    def happens(self):
        return self.takes[1] > 0

    def time(self):
        upper = self.since[0] * self.takes[1] + self.takes[0] * self.since[1]
        return lowest_terms(upper, self.since[1] * self.takes[1])

    def happens_by(self, u):
        if not self.happens():
            return False
        time = self.time()
        return time[0] <= u * time[1]


# For each slice that one who begins at t is in: its number, from when, and how long.
# The last one lasts for ever: None stands for that.
def stretches(begins, t):
    found = []
    for number, end in enumerate(begins[1:]):
        if end > t:
            since = max(t, begins[number])
            found.append((number, since, end - since))
    found.append((len(begins) - 1, max(t, begins[-1]), None))
    return found


# The most that any direction takes, as its upper and lower number, and the place of the first that takes it.
# Where nothing is lacking in any the place is None.
def longest_take(lacking, row):
    upper = 0
    lower = 1
    first = None
    for place, lack in enumerate(lacking):
        # Multiplied across, a lower number of 0 is more than any fraction and not more than another such.
        if lack > 0 and lack * lower > upper * row[place]:
            upper = lack
            lower = row[place]
            first = place
    return (upper, lower, first)


def ends_here(upper, lower, lasting):
    # In the last slice there is nothing more to wait for: it ends there or never.
    if lasting is None:
        return True
    return lower > 0 and upper <= lasting * lower


# One begins at a time that is a fraction; a second and a length are parted into as many parts as its lower number says.
# Counted in such parts every time and length is whole, and velocities stay as they are.
def least_time(forecast, x, y, start):
    forecast.weigh_directions()
    parts = start[1]
    lacking = [(a * x + b * y) * parts for a, b in forecast.directions]
    begins = [begin * parts for begin in forecast.begins]
    for number, since, lasting in stretches(begins, start[0]):
        row = forecast.supports[number]
        longest = longest_take(lacking, row)
        if ends_here(longest[0], longest[1], lasting):
            proof = (0, 0) if longest[2] is None else forecast.directions[longest[2]]
            return Arrival(number, (since, parts), (longest[0], longest[1] * parts), proof)
        lacking = [lack - support * lasting for lack, support in zip(lacking, row)]
