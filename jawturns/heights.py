"""Heights of plates: the valleys to which they turn and the tops from which they do."""

from jawturns.angles import ascending_of, inside


def rests_and_tops(corners, centre):
    """Return the ascending lists of the valleys and of the tops of one word.

    It is the push for a centre, which lies above the lower jaw, and the squeeze for None.
    """
    levels = _levels(corners, centre is None)
    nexts = levels[1:] + levels[:1]
    arrows = [_arrow(corners, centre, inside(low, high)) for low, high in zip(levels, nexts)]
    rests = []
    tops = []
    for at, level in enumerate(levels):
        # This arrow counts counterclockwise of the level, and the one before it clockwise.
        arrow = arrows[at]
        if _slope(arrow, level) > 0 and _slope(arrows[at - 1], level) < 0:
            rests.append(level)
        if _slope(arrow, level) > 0 and _slope(arrow, nexts[at]) < 0:
            tops.append((arrow[1], arrow[0]))
    return rests, ascending_of(tops)


def edges_of(corners):
    """Return the list of the arrows from each corner to the next one."""
    return [(x - p, y - q) for (p, q), (x, y) in zip(corners, [*corners[1:], corners[0]])]


def lift(corner, u):
    """Return the height of the corner at the standing u, times the length of u."""
    return corner[0] * u[1] + corner[1] * u[0]


def _levels(corners, between_two):
    """Return the ascending list of the directions at which an edge lies along a jaw."""
    edges = edges_of(corners)
    lower = [(x, -y) for x, y in edges]
    upper = [(-x, y) for x, y in edges]
    return ascending_of(lower + upper if between_two else lower)


def _arrow(corners, centre, u):
    """Return the arrow from the lowest corner to the highest one, or to the centre."""
    lifts = [lift(corner, u) for corner in corners]
    low = corners[lifts.index(min(lifts))]
    high = corners[lifts.index(max(lifts))] if centre is None else centre
    return high[0] - low[0], high[1] - low[1]


def _slope(arrow, u):
    """Return a number with the sign of the slope of the height at the standing u."""
    return arrow[0] * u[0] - arrow[1] * u[1]
