"""Stands: where the ends of a cut are behind a deed."""

from jawturns.cuts import Cuts
from jawturns.errors import BadPlan, BadStanding
from jawturns.machines import check_let
from jawturns.plans import check_plan


def first_stands(part, let=None):
    """Return the ascending list of the first stands."""
    cuts = _checked_cuts(part, let)
    return sorted({step[2] for step in cuts.firsts()})


def moves(part, stand, let=None):
    """Return the ascending list of (word, turn, next stand or None) for all steps from the stand."""
    cuts = _checked_cuts(part, let)
    _check_stand(cuts, stand)
    return cuts.onward(stand)


def next_stand(part, stand, step, let=None):
    """Return the stand behind a step from the stand, or None if the cut is lost."""
    cuts = _checked_cuts(part, let)
    _check_stand(cuts, stand)
    rule = cuts.book.rule(stand[0], step)
    if rule is None:
        raise BadPlan(0)
    return cuts.moved(stand, rule)


def stands_after(part, plan, let=None):
    """Return the list of the stands, or None for lost ones, of all cuts of the first deed."""
    cuts = _checked_cuts(part, let)
    check_plan(part, plan)
    stands = []
    state = cuts.book.begin
    last = 0
    for at, (word, turn) in enumerate(plan.deeds):
        rule = cuts.book.rule(state, (word, turn - last))
        if rule is None:
            raise BadPlan(at)
        if at == 0:
            stands = cuts.begun(rule)
        else:
            stands = [None if stand is None else cuts.moved(stand, rule) for stand in stands]
        state = rule[2]
        last = turn
    return stands


def _checked_cuts(part, let):
    """Return the cuts of the part for this machine, behind the checks of a machine."""
    check_let(part, let)
    return Cuts(part, let)


def _check_stand(cuts, stand):
    """Raise BadStanding if stand is none."""
    if not cuts.is_node(stand):
        raise BadStanding(stand)
