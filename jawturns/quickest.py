"""Quickest plans of a plate, and papers that show that none is quicker."""

from jawturns.angles import ONE, added, ascending_of, least_of
from jawturns.arcs import Arcs
from jawturns.courses import check_course, left_behind
from jawturns.errors import TooMany
from jawturns.plans import MOST_DEEDS
from jawturns.searches import Search, is_paper_of, least_number, paper_of


def least_deeds(plate):
    """Return the least number of deeds of a plan that comes right."""
    return least_number(Arcs(plate))


def quickest(plate):
    """Return a plan, a tuple of deeds, that comes right with the least number of deeds."""
    field = Arcs(plate)
    search = Search(field)
    if search.least > MOST_DEEDS:
        raise TooMany(MOST_DEEDS)
    deeds = []
    last = ONE
    onward = field.firsts()
    for left in reversed(range(search.least)):
        word, turn, arc = [step for step in onward if search.ways.get(step[2]) == left][0]
        last = least_of(added(last, turn))
        deeds.append((word, last))
        onward = search.table[arc]
    return tuple(deeds)


def quick_paper(plate):
    """Return the quick paper for the least number of deeds."""
    return paper_of(Arcs(plate))


def is_quick_paper(plate, length, thing):
    """Tell whether thing is a quick paper for the length."""
    return is_paper_of(Arcs(plate), length, thing)


def standings_left(plate, plan):
    """Return the ascending list of the standings that the plan leaves, or None for the empty plan."""
    check_course(plate, plan)
    if not plan:
        return None
    word, last = plan[-1]
    valleys = plate.rests(word)
    return ascending_of([added(valleys[at], last) for at in left_behind(plate, plan)])


def comes_right(plate, plan):
    """Tell whether the plan comes right."""
    check_course(plate, plan)
    # With a standing, all that differ from it by an own turning are left.
    return len(plan) > 0 and len(left_behind(plate, plan)) == plate.turnings


def end_standing(plate, plan):
    """Return the first standing that is left if the plan comes right, otherwise None."""
    if not comes_right(plate, plan):
        return None
    return standings_left(plate, plan)[0]
