"""Plans of plates: their checks, and the rests that they leave of all beginnings.

The rests of a word are told by their indexes among its valleys, relative to the last deed's direction.
"""

from jawturns.angles import ONE, is_direction, least_of, taken
from jawturns.checks import is_row_of, is_word
from jawturns.errors import BadPlan, BadWord
from jawturns.plans import MOST_DEEDS


def is_plate_deed(x):
    """Tell whether x is a deed or a step of a plate: a tuple of a word and a direction."""
    return isinstance(x, tuple) and len(x) == 2 and is_word(x[0]) and is_direction(x[1])


def check_course(plate, plan):
    """Make the checks of a plate's plan."""
    if not is_row_of(plan, 0, MOST_DEEDS):
        raise BadPlan(-1)
    for at, deed in enumerate(plan):
        if not is_plate_deed(deed):
            raise BadPlan(at)
    words = plate.words
    for word, _ in plan:
        if word not in words:
            raise BadWord(word)


def steps_of(plan):
    """Return the list of the deeds, each with its direction relative to the deed before."""
    steps = []
    last = ONE
    for word, turn in plan:
        # The numbers of a plan's directions grow from deed to deed; those of its steps may stay small.
        steps.append((word, least_of(taken(turn, last))))
        last = turn
    return steps


def all_rests(plate, word):
    """Return the list of the indexes of all rests of the word."""
    return list(range(len(plate.stretches(word).valleys)))


def goals_of(plate, word, step):
    """Return the list of the indexes of the rests to which a step brings the rests of the word."""
    return plate.stretches(step[0]).landings([taken(valley, step[1]) for valley in plate.stretches(word).valleys])


def goals_by_deeds(plate, steps):
    """Return, for each deed but the first, the list of where it brings the rests of the one before."""
    return [goals_of(plate, word, step) for (word, _), step in zip(steps, steps[1:])]


def left_of(left, goals):
    """Return the ascending list of the rests that are left of these behind deeds with these goals."""
    for row in goals:
        left = sorted({row[at] for at in left})
    return left


def left_behind(plate, plan):
    """Return the ascending list of the rests that the plan, of one deed or more, leaves of all."""
    steps = steps_of(plan)
    return left_of(all_rests(plate, steps[0][0]), goals_by_deeds(plate, steps))
