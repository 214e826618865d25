"""Slow definitions of directions and plates: by angles as fractions, and by the heights of the corners."""

from fractions import Fraction
from math import gcd

# So small a turn crosses no level direction and no top of a plate whose corners are a few thousand apart.
TINY = 10 ** 20


def slow_least(d):
    most = gcd(d[0], d[1])
    return d[0] // most, d[1] // most


def mul(d, e):
    """The product of two directions as complex numbers, least."""
    return slow_least((d[0] * e[0] - d[1] * e[1], d[1] * e[0] + d[0] * e[1]))


def div(d, e):
    return mul(d, (e[0], -e[1]))


def angle(d):
    """A key by which directions ascend: the quarter of the round, and the slope within it."""
    a, b = d
    if a > 0 and b >= 0:
        return 0, Fraction(b, a)
    if b > 0:
        return 1, Fraction(-a, b)
    if a < 0:
        return 2, Fraction(b, a)
    return 3, Fraction(a, -b)


def slow_ascending(row):
    return sorted({slow_least(d) for d in row}, key=angle)


def slow_within(d, low, high):
    """Whether d lies behind low up to high, by the angles counted from low on."""
    one, other = angle(div(d, low)), angle(div(high, low))
    if other == (0, 0):
        return True
    return (0, 0) < one <= other


def middle(low, high):
    """A direction strictly between low and high, counterclockwise."""
    found = [d for d in ((low[0] + high[0], low[1] + high[1]), mul(low, (0, 1)), mul(low, (-1, 0)), mul(low, (0, -1)))
             if d != (0, 0) and slow_within(d, low, high) and (angle(d) != angle(high))]
    return slow_least(found[0])


class SlowPlate:
    """A plate by the heights of its corners, as points 83 to 88 tell them."""

    def __init__(self, corners, centre=None):
        self.corners = list(corners)
        self.centre = centre
        self.words = ["squeeze"] if centre is None else ["push", "squeeze"]
        self.valleys = {word: self._found(word, -1) for word in self.words}
        self.peaks = {word: self._found(word, 1) for word in self.words}
        self.turnings = max(many for many in (1, 2, 4, 8) if self._keeps(many))

    def height(self, word, u):
        """The square of the height at u; heights are greater than 0."""
        lifts = [x * u[1] + y * u[0] for x, y in self.corners]
        if word == "squeeze":
            return Fraction((max(lifts) - min(lifts)) ** 2, u[0] ** 2 + u[1] ** 2)
        x, y = self.centre
        return Fraction((x * u[1] + y * u[0] - min(lifts)) ** 2, u[0] ** 2 + u[1] ** 2)

    def slopes(self, word, u):
        """Whether the height just clockwise of u, and just counterclockwise, is greater (1) or less (-1)."""
        here = self.height(word, u)
        near = [self.height(word, mul(u, (TINY, side))) for side in (-1, 1)]
        return [1 if height > here else -1 for height in near]

    def _found(self, word, side):
        """The valleys (-1) or the tops (1): what lies below, or above, all that is near on both sides."""
        points = self.corners + ([] if self.centre is None else [self.centre])
        arrows = [(x - p, y - q) for p, q in points for x, y in points if (p, q) != (x, y)]
        places = [(x, -y) for x, y in arrows] + [(y, x) for x, y in arrows]
        return [u for u in slow_ascending(places) if self.slopes(word, u) == [-side, -side]]

    def _keeps(self, many):
        eighth = {1: (1, 0), 2: (-1, 0), 4: (0, 1), 8: (1, 1)}[many]
        return all(slow_ascending([mul(d, eighth) for d in row]) == row
                   for word in self.words for row in (self.valleys[word], self.peaks[word]))

    def own(self):
        """The own turnings as point 88 lists them."""
        quarters = [(1, 0), (0, 1), (-1, 0), (0, -1)]
        return {1: quarters[:1], 2: quarters[::2], 4: quarters,
                8: quarters + [(1, 1), (-1, 1), (-1, -1), (1, -1)]}[self.turnings]

    def falls(self, word, u):
        """The valley to which u turns downhill; a top turns counterclockwise."""
        before, behind = self.slopes(word, u)
        if before > 0 and behind > 0:
            return slow_least(u)
        row = self.valleys[word]
        turned = sorted(row, key=lambda valley: angle(div(valley, u)))
        # Where it falls on both sides, u is a top.
        return turned[0] if behind < 0 else turned[-1]

    def settled(self, u, deed):
        word, a = deed
        return mul(self.falls(word, div(u, a)), a)

    def left(self, plan):
        """The standings that are left behind the plan, from every beginning, ascending."""
        word, a = plan[0]
        standings = [mul(valley, a) for valley in self.valleys[word]]
        for deed in plan[1:]:
            standings = [self.settled(u, deed) for u in standings]
        return slow_ascending(standings)

    def right(self, plan):
        """Whether the plan comes right: any two of the standings differ by an own turning."""
        if not plan:
            return False
        left = self.left(plan)
        own = [slow_least(d) for d in self.own()]
        return all(div(one, other) in own for one in left for other in left)

    def shown(self, plan, u):
        told = []
        for word, a in plan:
            u = self.settled(u, (word, a))
            height = self.height("squeeze", div(u, a))
            told.append((height.numerator, height.denominator) if word == "squeeze" else None)
        return told

    def beginnings(self, deed):
        """A beginning for each rest of the deed: the rest itself, and the tops beside it."""
        word, a = deed
        return [mul(d, a) for d in self.valleys[word] + self.peaks[word]]

    def m(self, word):
        return len(self.valleys[word]) // self.turnings

    def arcs(self, word):
        return [(word, i, j) for i in range(self.m(word)) for j in range(i, i + self.m(word))]

    def next_arc(self, arc, step):
        """Point 92 by the two ends, and the tops counted one by one."""
        word, i, j = arc
        v, b = step
        row = self.valleys[word]
        x, y = div(row[i], b), div(row[j % len(row)], b)
        p = 0 if i == j else len([top for top in self.peaks[v] if slow_within(top, x, y)])
        if p == self.m(v):
            return None
        k = self.valleys[v].index(self.falls(v, x))
        return (v, k % self.m(v), k % self.m(v) + p)

    def borders(self, arc, word):
        """The borders of point 93."""
        row = self.valleys[arc[0]]
        return slow_ascending([div(row[k % len(row)], top) for k in arc[1:] for top in self.peaks[word]])

    def sectors(self, arc, word):
        """The sectors of point 93; the next arc is that at a direction strictly inside."""
        borders = self.borders(arc, word)
        return [(borders[at - 1], high, self.next_arc(arc, (word, middle(borders[at - 1], high))))
                for at, high in enumerate(borders)]

    # As a field that the slow papers of tests.slow know: all arcs, and one step for each sector.

    def firsts(self):
        return [(word, i, i + self.m(word) - 1) for word in self.words for i in range(self.m(word))]

    def all_nodes(self):
        return [arc for word in self.words for arc in self.arcs(word)]

    def moves(self, arc):
        return [(word, high, goal) for word in self.words for _, high, goal in self.sectors(arc, word)]

    def is_end(self, arc):
        return arc[1] == arc[2]

    def empty_does(self):
        return False
