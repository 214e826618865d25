"""Directions: angles of whole numbers, from (1, 0) counterclockwise."""

from jawturns.angles import added, ascending_of, is_ahead, is_between, is_direction, least_of
from jawturns.checks import is_row
from jawturns.errors import BadTurn


def least(d):
    """Return the least direction that is the same as d."""
    _check_all([d])
    return least_of(d)


def times(d, e):
    """Return the direction whose angle is the sum of both."""
    _check_all([d, e])
    return least_of(added(d, e))


def back(d):
    """Return the direction with the opposite angle."""
    _check_all([d])
    return least_of((d[0], -d[1]))


def opposite(d):
    """Return the direction half a round further than d."""
    _check_all([d])
    return least_of((-d[0], -d[1]))


def ahead(d, e):
    """Tell whether the angle of d is less than that of e."""
    _check_all([d, e])
    return is_ahead(d, e)


def within(d, low, high):
    """Tell whether d lies in the sector from low, left out, counterclockwise to high, taken in."""
    _check_all([d, low, high])
    return is_between(d, low, high)


def ascending(row):
    """Return the ascending list of the least directions of the row, each once."""
    if not is_row(row):
        raise BadTurn(row)
    _check_all(row)
    return ascending_of(row)


def _check_all(row):
    """Raise BadTurn for the first item that is not a direction."""
    for value in row:
        if not is_direction(value):
            raise BadTurn(value)
