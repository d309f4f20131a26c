"""Which numbers and lists a call may be handed: all others are refused."""

LAST_TIME = 1000000
FURTHEST_PLACE = 1000000
FASTEST = 1000
MOST_VELOCITIES = 24


def is_time(t):
    return 0 <= t <= LAST_TIME


# A beginning and a time that is not before it.
def is_span(t, u):
    return is_time(t) and is_time(u) and t <= u


def is_place(x, y):
    return -FURTHEST_PLACE <= x <= FURTHEST_PLACE and -FURTHEST_PLACE <= y <= FURTHEST_PLACE


# A direction that is asked for has the same range as a velocity.
def is_velocity(a, b):
    return -FASTEST <= a <= FASTEST and -FASTEST <= b <= FASTEST


def is_direction(a, b):
    return is_velocity(a, b) and (a, b) != (0, 0)


# The list's numbers, so many together, one behind the other.
def grouped(numbers, size):
    return [tuple(numbers[k:k + size]) for k in range(0, len(numbers), size)]


def are_velocities(numbers):
    if len(numbers) % 2 == 1 or not 1 <= len(numbers) // 2 <= MOST_VELOCITIES:
        return False
    return all([is_velocity(x, y) for x, y in grouped(numbers, 2)])


def are_places(numbers):
    if len(numbers) % 2 == 1 or len(numbers) < 4:
        return False
    return all([is_place(x, y) for x, y in grouped(numbers, 2)])


def are_claims(numbers):
    if len(numbers) % 3 != 0 or len(numbers) < 3:
        return False
    return all([is_place(x, y) and is_time(u) for x, y, u in grouped(numbers, 3)])
