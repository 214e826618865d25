"""Slack: plans for a part that may be a little off where it should stand."""

from jawturns.checks import is_whole_from
from jawturns.errors import BadSlack
from jawturns.machines import check_let
from jawturns.numbering import Numbering
from jawturns.plans import check_plan
from jawturns.rows import Rows, all_reached, lefts_behind
from jawturns.searches import (is_paper_of, is_stuck_of, least_number, paper_of, shortest_of,
                               stuck_of)

MOST_SLACK = 60


class Slack:
    """How far a part may be off a rest, and how far off it may behave."""

    def __init__(self, rest, border):
        for number in (rest, border):
            if not is_whole_from(number, 0, MOST_SLACK):
                raise BadSlack(number)
        self.rest = rest
        self.border = border

    def __eq__(self, other):
        return isinstance(other, Slack) and self.rest == other.rest and self.border == other.border


class SureRows(Rows):
    """The rows of one part with slack; ends are those whose rests are within the room."""

    def __init__(self, part, let, slack, room):
        Rows.__init__(self, [part], let, _spread(slack))
        self._room = room

    def empty_does(self):
        """Tell whether the empty plan is sure."""
        return self.numberings[0].span - 1 <= self._room

    def is_end(self, row):
        """Tell whether the rests that are left are covered by the room."""
        _, word, lefts = row
        numbering = self.numberings[0]
        places = [numbering.place(word, at) for at in lefts[0]]
        return _cover(places, numbering.span) <= self._room


def left_after(part, slack, plan):
    """Return the ascending list of the rests, modulo the period, that the part may be near."""
    check_plan(part, plan)
    numbering = Numbering(part)
    if not plan.deeds:
        return list(range(numbering.span))
    word, last = plan.deeds[0]
    left = tuple(range(numbering.share(word)))
    for next_word, turn in plan.deeds[1:]:
        left = lefts_behind(numbering, word, left, (next_word, turn - last), _spread(slack))
        word = next_word
        last = turn
    return sorted([(numbering.place(word, at) + last) % numbering.span for at in left])


def sure(part, slack, plan, room=0):
    """Tell whether the plan is sure for the room."""
    left = left_after(part, slack, plan)
    _check_room(part, room)
    return _cover(left, part.period) <= room


def least_sure(part, let, slack, room=0):
    """Return the least number of deeds of a sure plan that is let, or None."""
    return least_number(_counted_rows(part, let, slack, room))


def shortest_sure(part, let, slack, room=0):
    """Return the shortest sure plan that is let, of several the least."""
    return shortest_of(_counted_rows(part, let, slack, room))


def sure_paper(part, let, slack, room=0):
    """Return the paper that shows that no sure plan is shorter than the shortest one."""
    return paper_of(_counted_rows(part, let, slack, room))


def is_sure_paper(part, let, slack, room, length, thing):
    """Tell whether thing is a paper for the length."""
    return is_paper_of(_checked_rows(part, let, slack, room), length, thing)


def never_sure(part, let, slack, room=0):
    """Return the ascending list of all rows that are come to, or None if some plan is sure."""
    return stuck_of(_counted_rows(part, let, slack, room))


def is_never_sure(part, let, slack, room, thing):
    """Tell whether thing is a list that shows that no plan is sure."""
    return is_stuck_of(_checked_rows(part, let, slack, room), thing)


def _spread(slack):
    """Return how far off a standing both slacks together may be."""
    return slack.rest + slack.border


def _cover(standings, span):
    """Return the least integer that covers the standings, an ascending list below the span."""
    # The cover leaves out the widest gap; behind the last standing the first one comes again.
    nexts = [*standings[1:], standings[0] + span]
    return span - max([after - before for before, after in zip(standings, nexts)])


def _check_room(part, room):
    """Raise BadSlack if room is not an integer from 0 to the part's round."""
    if not is_whole_from(room, 0, part.around):
        raise BadSlack(room)


def _checked_rows(part, let, slack, room):
    """Return the rows of the part behind the checks of the machine and of the room."""
    check_let(part, let)
    _check_room(part, room)
    return SureRows(part, let, slack, room)


def _counted_rows(part, let, slack, room):
    """Return the rows of the part, or raise TooMany if more than 600 are come to."""
    rows = _checked_rows(part, let, slack, room)
    # All rows count, also those that lie behind an end.
    all_reached([part], let, _spread(slack))
    return rows
