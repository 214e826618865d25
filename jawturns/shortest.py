"""Shortest plans for one part, and what shows that none is shorter or that there is none."""

from jawturns.checks import is_whole_from
from jawturns.cuts import Cuts
from jawturns.errors import BadPlan, TooMany
from jawturns.machines import check_let, ways_on
from jawturns.plans import Plan, does
from jawturns.searches import (is_paper_of, is_stuck_of, least_number, paper_of, shortest_of,
                               stuck_of)

LONGEST_LISTED = 12
MOST_LISTED = 600


def least_length(part, let=None):
    """Return the least number of deeds of a plan that does and is let, or None."""
    check_let(part, let)
    return least_number(Cuts(part, let))


def shortest(part, let=None):
    """Return the shortest plan that does and is let, of several the least."""
    check_let(part, let)
    return shortest_of(Cuts(part, let))


def paper(part, let=None):
    """Return the paper that shows that no plan is shorter than the shortest one."""
    check_let(part, let)
    return paper_of(Cuts(part, let))


def is_paper(part, length, thing, let=None):
    """Tell whether thing is a paper for the length."""
    check_let(part, let)
    return is_paper_of(Cuts(part, let), length, thing)


def stuck(part, let=None):
    """Return the ascending list of all stands that are come to, or None if some plan does."""
    check_let(part, let)
    return stuck_of(Cuts(part, let))


def is_stuck(part, thing, let=None):
    """Tell whether thing is a stuck list."""
    check_let(part, let)
    return is_stuck_of(Cuts(part, let), thing)


def plans(part, length, let):
    """Yield, in ascending order, all plans of that many deeds that are let and that do."""
    for plan in _plans_that_do(part, length, let):
        yield plan


def _plans_that_do(part, length, let):
    """Return the list of what plans yields."""
    check_let(part, let)
    if not is_whole_from(length, 0, LONGEST_LISTED):
        raise BadPlan(-1)
    if let.many(length) > MOST_LISTED:
        raise TooMany(MOST_LISTED)
    listed = [Plan(part.around, deeds) for deeds in _let_deeds(let, length)]
    return [plan for plan in listed if does(part, plan)]


def _let_deeds(let, length):
    """Return the ascending list of the rows of deeds of all plans of that length that are let."""
    ways = ways_on(let, length)
    walks = [([], 0, "start")]
    for left in reversed(range(length)):
        # A walk that leads nowhere is left at once: there may be far more of these than plans.
        walks = [([*deeds, (word, turn)], turn, goal) for deeds, last, state in walks
                 for word, turn, goal in _next_deeds(let, state, last) if ways[left][goal] > 0]
    return [deeds for deeds, last, state in walks]


def _next_deeds(let, state, last):
    """Return the ascending list of (word, turn, next state) behind a deed at the turn last."""
    return sorted([(word, (last + turn) % let.around, goal) for word, turn, goal in let.rules(state)])
