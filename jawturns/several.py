"""One plan for two or three kinds of parts."""

from math import gcd

from jawturns.plans import ends
from jawturns.rows import Rows, all_reached, check_kinds, check_lets
from jawturns.searches import (is_paper_of, is_stuck_of, least_number, paper_of, shortest_of,
                               stuck_of)

LEAST_KINDS = 2
MOST_KINDS = 3


class KindRows(Rows):
    """The rows of several kinds; ends are those behind plans that do for all of them."""

    def __init__(self, parts, let, apart):
        Rows.__init__(self, parts, let)
        self._apart = apart

    def empty_does(self):
        """Tell whether the empty plan does; it never brings kinds to unlike standings."""
        return not self._apart and all([numbering.span == 1 for numbering in self.numberings])

    def is_end(self, row):
        """Tell whether every kind has one rest left, if asked for all of them unlike."""
        _, word, lefts = row
        if not all([len(left) == 1 for left in lefts]):
            return False
        if not self._apart:
            return True
        return _are_unlike([(numbering.place(word, left[0]), numbering.span)
                            for numbering, left in zip(self.numberings, lefts)])


def _are_unlike(standings):
    """Tell whether the pairs (standing, period) are such that no two kinds may stand alike."""
    for at, (one, span) in enumerate(standings):
        for other, other_span in standings[:at]:
            # Both periods divide the round, so multiples of their divisor are all that can differ.
            if (one - other) % gcd(span, other_span) == 0:
                return False
    return True


def does_for(parts, plan, *, apart=False):
    """Tell whether the plan does for the kinds."""
    check_kinds(parts, LEAST_KINDS, MOST_KINDS)
    # Each part in turn makes the checks of the plan here, before any of them is judged.
    standings = [(ends(part, plan), part.period) for part in parts]
    if not all([standing is not None for standing, span in standings]):
        return False
    return not apart or _are_unlike(standings)


def least_for(parts, let, *, apart=False):
    """Return the least number of deeds of a plan that does and is let, or None."""
    return least_number(_counted_rows(parts, let, apart))


def shortest_for(parts, let, *, apart=False):
    """Return the shortest plan that does and is let, of several the least."""
    return shortest_of(_counted_rows(parts, let, apart))


def paper_for(parts, let, *, apart=False):
    """Return the paper that shows that no plan is shorter than the shortest one."""
    return paper_of(_counted_rows(parts, let, apart))


def is_paper_for(parts, let, length, thing, *, apart=False):
    """Tell whether thing is a paper for the length."""
    return is_paper_of(_checked_rows(parts, let, apart), length, thing)


def stuck_for(parts, let, *, apart=False):
    """Return the ascending list of all rows that are come to, or None if some plan does."""
    return stuck_of(_counted_rows(parts, let, apart))


def is_stuck_for(parts, let, thing, *, apart=False):
    """Tell whether thing is a stuck list."""
    return is_stuck_of(_checked_rows(parts, let, apart), thing)


def _checked_rows(parts, let, apart):
    """Return the rows of the kinds behind the checks of the kinds and of the machine."""
    check_kinds(parts, LEAST_KINDS, MOST_KINDS)
    check_lets(parts, let)
    return KindRows(parts, let, apart)


def _counted_rows(parts, let, apart):
    """Return the rows of the kinds, or raise TooMany if more than 600 are come to."""
    rows = _checked_rows(parts, let, apart)
    # All rows count, also those that lie behind an end.
    all_reached(parts, let)
    return rows
