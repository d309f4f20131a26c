"""The least time found in other ways than the program's: by linear programming, and by sailing every second."""

from fractions import Fraction


def pivot(rows, basis, row, column):
    factor = rows[row][column]
    rows[row] = [value / factor for value in rows[row]]
    for k in range(len(rows)):
        if k != row and rows[k][column] != 0:
            times = rows[k][column]
            rows[k] = [value - times * other for value, other in zip(rows[k], rows[row])]
    if row < len(basis):
        basis[row] = column


def run_simplex(rows, basis, columns):
    """Makes the last row's value least, over the first columns; the rule by Bland ends always."""
    while True:
        column = next((j for j in range(columns) if rows[-1][j] < 0), None)
        if column is None:
            return
        choices = [
            (rows[k][-1] / rows[k][column], basis[k], k) for k in range(len(basis)) if rows[k][column] > 0
        ]
        if not choices:
            raise AssertionError("no bound")
        pivot(rows, basis, min(choices)[2], column)


def least_cost(matrix, right, costs):
    """The least of costs times v, where matrix times v is right and v is not below 0; None if there is no v."""
    count = len(costs)
    rows = []
    for k, row in enumerate(matrix):
        sign = -1 if right[k] < 0 else 1
        extra = [Fraction(int(j == k)) for j in range(len(matrix))]
        rows.append([Fraction(sign * value) for value in row] + extra + [Fraction(sign * right[k])])
    basis = [count + k for k in range(len(matrix))]
    wide = count + len(matrix)
    rows.append([-sum(row[j] for row in rows) if j < count or j == wide else Fraction(0) for j in range(wide + 1)])
    run_simplex(rows, basis, count)
    if rows[-1][-1] != 0:
        return None
    for k in range(len(basis)):
        if basis[k] >= count:
            column = next((j for j in range(count) if rows[k][j] != 0), None)
            if column is not None:
                pivot(rows, basis, k, column)
    goal = [Fraction(cost) for cost in costs] + [Fraction(0)] * (len(matrix) + 1)
    for k in range(len(basis)):
        if basis[k] < count:
            times = goal[basis[k]]
            goal = [value - times * other for value, other in zip(goal, rows[k])]
    rows[-1] = goal
    run_simplex(rows, basis, count)
    return -rows[-1][-1]


def stays(slices, t):
    """(slice, from, till) of each slice that one who begins at t is in; till is None in the last."""
    found = []
    for k, (begin, velocities) in enumerate(slices):
        till = slices[k + 1][0] if k + 1 < len(slices) else None
        if till is None or till > t:
            found.append((k, max(t, begin), till))
    return found


def least_by_programming(slices, x, y, t):
    """(slice, time) of the arrival or None: how long each velocity is sailed are the unknowns."""
    before = []
    for k, since, till in stays(slices, t):
        past = [(j, velocity) for j, span in before for velocity in slices[j][1]]
        here = slices[k][1]
        columns = len(past) + len(before) + len(here)
        matrix = [
            [velocity[axis] for j, velocity in past] + [0] * len(before) + [velocity[axis] for velocity in here]
            for axis in (0, 1)
        ]
        right = [x, y]
        for place, (j, span) in enumerate(before):
            slack = [int(other == place) for other in range(len(before))]
            matrix.append([int(number == j) for number, velocity in past] + slack + [0] * len(here))
            right.append(span)
        costs = [0] * (columns - len(here)) + [1] * len(here)
        lasting = least_cost(matrix, right, costs)
        if lasting is not None and (till is None or lasting <= till - since):
            return k, since + lasting
        if till is not None:
            before.append((k, till - since))
    return None


def gone_by_seconds(slices, t, u):
    """For each whole time from t to u all that one can have gone who changes at whole seconds alone."""
    places = {(0, 0)}
    found = {t: places}
    for second in range(t, u):
        velocities = [velocities for begin, velocities in slices if begin <= second][-1]
        places = {(x + a, y + b) for x, y in places for a, b in velocities + [(0, 0)]}
        found[second + 1] = places
    return found


def bend(p, q, r):
    return (q[0] - p[0]) * (r[1] - p[1]) - (q[1] - p[1]) * (r[0] - p[0])


def along(p, q, r):
    return (q[0] - p[0]) * (r[0] - p[0]) + (q[1] - p[1]) * (r[1] - p[1])


def is_side(points, p, q):
    """Whether all points lie to the left of the line from p to q, or on it between them."""
    for r in points:
        if bend(p, q, r) < 0:
            return False
        if bend(p, q, r) == 0 and not 0 <= along(p, q, r) <= along(p, q, q):
            return False
    return True


def corners_by_pairs(velocities):
    """A hull's corners: each pair of points is looked at, whether it is a side."""
    points = sorted({(0, 0), *velocities}, key=lambda point: (point[1], point[0]))
    if all(bend(points[0], points[-1], point) == 0 for point in points):
        return points if len(points) == 1 else [points[0], points[-1]]
    following = {p: q for p in points for q in points if p != q and is_side(points, p, q)}
    corners = [points[0]]
    while following[corners[-1]] != points[0]:
        corners.append(following[corners[-1]])
    return corners


def directions_by_words(slices):
    found = []

    def look(a, b):
        size = max(size for size in range(1, abs(a) + abs(b) + 1) if a % size == 0 and b % size == 0)
        if (a // size, b // size) not in found:
            found.append((a // size, b // size))

    for begin, velocities in slices:
        corners = corners_by_pairs(velocities)
        count = len(corners)
        for k in range(count if count > 1 else 0):
            p, q = corners[k], corners[(k + 1) % count]
            look(q[1] - p[1], p[0] - q[0])
        if count == 2:
            p, q = corners
            look(q[0] - p[0], q[1] - p[1])
            look(p[0] - q[0], p[1] - q[1])
    for a, b in [(1, 0), (0, 1), (-1, 0), (0, -1)]:
        look(a, b)
    return found


def support_by_words(velocities, a, b):
    return max([0] + [a * x + b * y for x, y in velocities])


def least_by_words(slices, x, y, t):
    """(slice, proof, time) or (None, proof, None), word by word, with Python's own fractions."""
    directions = directions_by_words(slices)
    behind = []
    for k, since, till in stays(slices, t):
        takes = []
        for a, b in directions:
            lacking = a * x + b * y - sum(support_by_words(slices[j][1], a, b) * span for j, span in behind)
            here = support_by_words(slices[k][1], a, b)
            if lacking > 0:
                takes.append(((a, b), Fraction(lacking, here) if here else float("inf")))
        most = max([Fraction(0)] + [time for direction, time in takes])
        proof = next((direction for direction, time in takes if time == most), (0, 0))
        if till is None and most == float("inf"):
            return None, proof, None
        if till is None or most <= till - since:
            return k, proof, since + most
        behind.append((k, till - since))


def spans_by_words(slices, t, u):
    """(slice, how long) of each slice that one is in from t till u."""
    found = []
    for k, since, till in stays(slices, t):
        if since < u:
            found.append((k, (u if till is None else min(till, u)) - since))
    return found


def set_by_sums(slices, t, u):
    """The set's corners: slice by slice every sum of a corner till then and a velocity all the time."""
    corners = [(0, 0)]
    for k, span in spans_by_words(slices, t, u):
        velocities = slices[k][1] + [(0, 0)]
        corners = corners_by_pairs([(x + a * span, y + b * span) for x, y in corners for a, b in velocities])
    return corners


def set_support(slices, t, u, a, b):
    return sum(support_by_words(slices[k][1], a, b) * span for k, span in spans_by_words(slices, t, u))


def is_within(corners, point):
    """Whether a place lies in the figure of these corners, its border with it."""
    if len(corners) == 1:
        return tuple(point) == corners[0]
    if len(corners) == 2:
        p, q = corners
        return bend(p, q, point) == 0 and 0 <= along(p, q, point) <= along(p, q, q)
    return all(bend(p, q, point) >= 0 for p, q in zip(corners, corners[1:] + corners[:1]))


def course_by_words(slices, t, places, least_of=least_by_words):
    """The time of each leg up to the first that never arrives."""
    times = []
    for (x, y), (p, q) in zip(places, places[1:]):
        told = least_of(slices, p - x, q - y, t)
        if told is None or told[0] is None:
            return times
        t = Fraction(told[-1])
        times.append(t)
    return times


def joined(slices):
    """One slice alone with the velocities of all."""
    return [(0, [velocity for begin, velocities in slices for velocity in velocities])]


def bound_by_words(slices, places):
    times = course_by_words(joined(slices), 0, places)
    return times[-1] if len(times) == len(places) - 1 else None


def first_false(slices, t, claims):
    """The first claim that can't be, None if each can: its way has to lie in the set of its two times."""
    before = (0, 0, t)
    for k, claim in enumerate(claims):
        step = (claim[0] - before[0], claim[1] - before[1])
        if not is_within(set_by_sums(slices, before[2], claim[2]), step):
            return k
        before = claim
    return None


def speed_by_crossing(velocities, a, b):
    """The greatest r such that r (a, b) is in the hull: where the ray meets a side, or a corner lies on it."""
    corners = corners_by_pairs(velocities)
    found = [Fraction(0)]
    for p, q in zip(corners, corners[1:] + corners[:1]):
        if a * p[1] == b * p[0]:
            found.append(Fraction(a * p[0] + b * p[1], a * a + b * b))
        left, right = a * q[1] - b * q[0], a * p[1] - b * p[0]
        if left != right and min(left, right) <= 0 <= max(left, right):
            share = Fraction(-right, left - right)
            x, y = p[0] + share * (q[0] - p[0]), p[1] + share * (q[1] - p[1])
            found.append((a * x + b * y) / (a * a + b * b))
    return max(found)
