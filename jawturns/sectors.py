"""Arcs of a plate: where the ends of a cut are behind a deed, and the sectors of alike steps."""

from jawturns.arcs import Arcs
from jawturns.courses import check_course, is_plate_deed, steps_of
from jawturns.errors import BadPlan, BadStanding, BadWord


def first_arcs(plate):
    """Return the ascending list of the first arcs."""
    return [step[2] for step in Arcs(plate).firsts()]


def arc_behind(plate, arc, step):
    """Return the arc behind a step from the arc, or None if the cut is lost."""
    arcs = _checked_arcs(plate, arc)
    if not is_plate_deed(step) or step[0] not in plate.words:
        raise BadPlan(0)
    return arcs.moved(arc, step)


def sectors(plate, arc, word):
    """Return the list of the sectors (low, high, next arc or None) of the steps with the word."""
    arcs = _checked_arcs(plate, arc)
    if word not in plate.words:
        raise BadWord(word)
    return arcs.sectors_of(arc, word)


def arcs_after(plate, plan):
    """Return the list of the arcs, or None for lost ones, of all cuts of the first deed."""
    check_course(plate, plan)
    if not plan:
        return []
    arcs = Arcs(plate)
    steps = steps_of(plan)
    found = arcs.begun(steps[0][0])
    for step in steps[1:]:
        found = [None if arc is None else arcs.moved(arc, step) for arc in found]
    return found


def _checked_arcs(plate, arc):
    """Return the arcs of the plate, or raise BadStanding if arc is none of them."""
    arcs = Arcs(plate)
    if not arcs.is_node(arc):
        raise BadStanding(arc)
    return arcs
