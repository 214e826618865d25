"""Swings: how one deed of a plate's plan may turn while all the others stay as they are."""

from jawturns.angles import ONE, added, ascending_of, inside, is_ahead, least_of, taken
from jawturns.checks import is_whole_from
from jawturns.courses import all_rests, check_course, goals_by_deeds, left_behind, left_of, steps_of
from jawturns.errors import BadPlan


class Swing:
    """One deed of a plan whose direction may be any, relative to the base, a direction of the plan."""

    def __init__(self, plate, plan, at):
        self.base = _base(plan, at)
        self._turnings = plate.turnings
        self._own = plate.stretches(plan[at][0])
        self._left = None
        if at > 0:
            valleys = plate.rests(plan[at - 1][0])
            self._left = [valleys[k] for k in left_behind(plate, plan[:at])]
        self._next = None
        if at + 1 < len(plan):
            word, turn = plan[at + 1]
            self._next = plate.stretches(word)
            self._next_turn = least_of(taken(turn, self.base))
            goals = goals_by_deeds(plate, steps_of(plan[at + 1:]))
            self._finals = [left_of([k], goals)[0] for k in all_rests(plate, word)]

    def borders(self):
        """Return the ascending list of the directions at which what the deed does may change."""
        found = []
        if self._left is not None:
            found.extend([taken(u, peak) for u in self._left for peak in self._own.peaks])
        if self._next is not None:
            found.extend([taken(added(peak, self._next_turn), valley)
                          for valley in self._own.valleys for peak in self._next.peaks])
        return ascending_of(found)

    def is_right(self, turn):
        """Tell whether the plan comes right with this direction of the deed."""
        left = list(range(len(self._own.valleys)))
        if self._left is not None:
            left = sorted(set(self._own.landings([taken(u, turn) for u in self._left])))
        if self._next is None:
            return len(left) == self._turnings
        # Both directions may be long, so they are put together only once.
        offset = taken(turn, self._next_turn)
        ahead = [added(self._own.valleys[k], offset) for k in left]
        return len({self._finals[k] for k in self._next.landings(ahead)}) == self._turnings


def swings(plate, plan, at):
    """Return the list of all (border, comes right at it, comes right behind it) of the deed."""
    check_course(plate, plan)
    if not is_whole_from(at, 0, len(plan) - 1):
        raise BadPlan(-1)
    swing = Swing(plate, plan, at)
    borders = swing.borders()
    told = [(least_of(added(low, swing.base)), swing.is_right(low), swing.is_right(inside(low, high)))
            for low, high in zip(borders, borders[1:] + borders[:1])]
    # Turned by the base, the list is still ascending but for where it begins.
    first = [k for k in range(len(told)) if is_ahead(told[k][0], told[k - 1][0])]
    return told[first[0]:] + told[:first[0]] if first else told


def _base(plan, at):
    """Return the direction of a neighbouring deed: relative to it the numbers may stay small."""
    if at > 0:
        return plan[at - 1][1]
    return plan[1][1] if len(plan) > 1 else ONE
