"""Glances: what the widths between the jaws tell of plates."""

from jawturns.angles import added, ascending_of, is_direction, taken
from jawturns.checks import is_row_of, is_whole
from jawturns.courses import all_rests, check_course, goals_by_deeds, left_of, steps_of
from jawturns.errors import BadKinds, BadLog, BadStanding
from jawturns.plates import Plate

MOST_KINDS = 3
LONGEST_LOG = 40


def shown(plate, plan, standing):
    """Return the list of what the deeds show: a width's square, or None behind a push."""
    check_course(plate, plan)
    if not is_direction(standing):
        raise BadStanding(standing)
    if not plan:
        return []
    word, turn = plan[0]
    steps = steps_of(plan)
    rest = plate.stretches(word).landing(taken(standing, turn))
    return _shown_from(rest, steps, _glances(plate), goals_by_deeds(plate, steps))


def where_now(plates, log):
    """Return the list of the pairs (kind, standing) that are possible behind the log."""
    _check_kinds(plates)
    _check_log(log)
    steps = steps_of([("squeeze", turn) for turn, _ in log])
    last = log[-1][0]
    found = []
    for kind, plate in enumerate(plates):
        valleys = plate.rests("squeeze")
        left = [added(valleys[at], last) for at in _left_by_log(plate, steps, log)]
        found.extend([(kind, standing) for standing in ascending_of(left)])
    return found


def apart(plates, plan):
    """Tell whether no two beginnings of unlike kinds show the same."""
    _check_kinds(plates)
    for plate in plates:
        check_course(plate, plan)
    if not plan:
        return len(plates) == 1
    steps = steps_of(plan)
    seen = {}
    for plate in plates:
        told = _all_shown(plate, steps)
        if any([row in seen for row in told]):
            return False
        for row in told:
            seen[row] = True
    return True


def _glances(plate):
    """Return a dict of what the rests of each word show, by their indexes."""
    return {word: [plate.width(valley) if word == "squeeze" else None for valley in plate.rests(word)]
            for word in plate.words}


def _shown_from(rest, steps, glances, goals):
    """Return the list of what the deeds show if the first one brings the plate to the rest."""
    told = [glances[steps[0][0]][rest]]
    for (word, _), row in zip(steps[1:], goals):
        rest = row[rest]
        told.append(glances[word][rest])
    return told


def _all_shown(plate, steps):
    """Return the list of what the deeds may show, a tuple for each rest of the first one."""
    glances = _glances(plate)
    goals = goals_by_deeds(plate, steps)
    return [tuple(_shown_from(rest, steps, glances, goals)) for rest in all_rests(plate, steps[0][0])]


def _left_by_log(plate, steps, log):
    """Return the ascending list of the rests that may be reached behind the log."""
    widths = _glances(plate)["squeeze"]
    left = all_rests(plate, "squeeze")
    goals = goals_by_deeds(plate, steps)
    for at, (_, told) in enumerate(log):
        if at > 0:
            left = left_of(left, [goals[at - 1]])
        left = [rest for rest in left if _are_equal(widths[rest], told)]
    return left


def _are_equal(one, other):
    """Tell whether two fractions (top, bottom) are equal."""
    return one[0] * other[1] == other[0] * one[1]


def _check_kinds(plates):
    """Raise BadKinds if plates is not a row of one to three plates."""
    if not is_row_of(plates, 1, MOST_KINDS):
        raise BadKinds(-1)
    for at, plate in enumerate(plates):
        if not isinstance(plate, Plate):
            raise BadKinds(at)


def _check_log(log):
    """Raise BadLog if log is not a row of 1 to 40 pairs of a direction and a fraction."""
    if not is_row_of(log, 1, LONGEST_LOG):
        raise BadLog(-1)
    for at, pair in enumerate(log):
        if not isinstance(pair, tuple) or len(pair) != 2 or not is_direction(pair[0]) or not _is_fraction(pair[1]):
            raise BadLog(at)


def _is_fraction(x):
    """Tell whether x is a tuple of two integers of which the second one is greater than 0."""
    return isinstance(x, tuple) and len(x) == 2 and is_whole(x[0]) and is_whole(x[1]) and x[1] > 0
