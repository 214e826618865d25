"""Angles of directions, unchecked: what the directions of callers and those of plates share.

A direction is a tuple (a, b) of two integers that are not both 0. It need not be least: only what
`least_of` and `ascending_of` return is so, because to divide long integers takes time.
"""

from math import gcd

from jawturns.checks import is_whole

ONE = (1, 0)
QUARTER = (0, 1)


def is_direction(x):
    """Tell whether x is a direction."""
    return (isinstance(x, tuple) and len(x) == 2 and is_whole(x[0]) and is_whole(x[1])
            and (x[0] != 0 or x[1] != 0))


def least_of(d):
    """Return the least direction that is the same as d."""
    a, b = d
    most = gcd(a, b)
    return a // most, b // most


def added(d, e):
    """Return a direction whose angle is the sum of both."""
    a, b = d
    x, y = e
    return a * x - b * y, a * y + b * x


def taken(d, e):
    """Return a direction whose angle is that of d less that of e."""
    a, b = d
    x, y = e
    return a * x + b * y, b * x - a * y


def cross(d, e):
    """Return a number greater than 0 if e lies less than half a round counterclockwise of d."""
    return d[0] * e[1] - d[1] * e[0]


def is_ahead(d, e):
    """Tell whether the angle of d is less than that of e."""
    half = _half(d)
    other = _half(e)
    if half != other:
        return half < other
    return cross(d, e) > 0


def is_between(d, low, high):
    """Tell whether d lies behind low, counterclockwise up to high; all round if these are the same."""
    if is_ahead(low, high):
        return is_ahead(low, d) and not is_ahead(high, d)
    return is_ahead(low, d) or not is_ahead(high, d)


def inside(low, high):
    """Return a direction strictly between low and high, counterclockwise."""
    if cross(low, high) > 0:
        return low[0] + high[0], low[1] + high[1]
    # From low to high it is half a round or more.
    return added(low, QUARTER)


def many_up_to(row, d):
    """Return how many directions of the ascending row have no greater angle than d."""
    low = 0
    high = len(row)
    while low < high:
        middle = (low + high) // 2
        if is_ahead(d, row[middle]):
            high = middle
        else:
            low = middle + 1
    return low


def ascending_of(row):
    """Return the ascending list of the least directions of the row, each once."""
    found = []
    for d in row:
        at = many_up_to(found, d)
        if at == 0 or is_ahead(found[at - 1], d):
            found.insert(at, least_of(d))
    return found


def _half(d):
    """Return 0 for an angle of less than half a round, else 1."""
    if d[1] == 0:
        return 0 if d[0] > 0 else 1
    return 0 if d[1] > 0 else 1
