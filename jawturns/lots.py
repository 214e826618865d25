"""Lots of rests: what may be left of several kinds behind the plans that a machine lets."""

from jawturns.checks import is_whole_from
from jawturns.errors import BadPlan, BadSlack, BadStanding
from jawturns.rows import Rows, all_reached, check_kinds, check_lets

MOST_KINDS = 3
MOST_SPREAD = 120


def first_rows(parts, let):
    """Return the ascending list of the first rows."""
    _check_parts(parts, let)
    return sorted({step[2] for step in Rows(parts, let).firsts()})


def next_row(parts, row, step, let, *, spread=0):
    """Return the row behind a step from the row."""
    _check_parts(parts, let)
    rows = Rows(parts, let, spread)
    if not rows.is_node(row):
        raise BadStanding(row)
    rule = rows.book.rule(row[0], step)
    if rule is None:
        raise BadPlan(0)
    _check_spread(spread)
    return rows.moved(row, rule)


def all_rows(parts, let, *, spread=0):
    """Return the ascending list of all rows that are come to."""
    _check_parts(parts, let)
    _check_spread(spread)
    return all_reached(parts, let, spread)


def _check_parts(parts, let):
    """Make the checks of the kinds and then those of the machine."""
    check_kinds(parts, 1, MOST_KINDS)
    check_lets(parts, let)


def _check_spread(spread):
    """Raise BadSlack if spread is not an integer from 0 to 120."""
    if not is_whole_from(spread, 0, MOST_SPREAD):
        raise BadSlack(spread)
