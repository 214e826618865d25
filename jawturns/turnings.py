"""Turnings: where one deed, done at turn 0, brings a part."""

from jawturns.checks import check_round, check_widths, is_row, is_row_of, is_whole, is_whole_from
from jawturns.errors import BadRows, BadStanding, BadTurn

MOST_PAIRS = 12


class Turning:
    """Stretches of a round, each with the rest that all of it comes to. It never changes."""

    def __init__(self, around, rows):
        check_round(around)
        _check_rows(around, rows)
        self.around = around
        self.rows = tuple(rows)
        self._lifts = _lifts_of_places(around, self.rows)
        self._period = _least_period(around, self.rows)

    @classmethod
    def of_widths(cls, widths):
        """Make the turning of a part that turns downhill between jaws of these widths."""
        if not is_row(widths):
            raise BadRows(-1)
        around = len(widths)
        check_round(around)
        check_widths(widths)
        for at in range(around):
            if widths[at] == widths[(at + 1) % around]:
                raise BadRows(at)
        # Each top has a valley of its own, so too many valleys are too many pairs.
        return cls(around, _rows_downhill(around, widths))

    def __len__(self):
        return len(self.rows)

    def __eq__(self, other):
        return isinstance(other, Turning) and self.around == other.around and self.rows == other.rows

    def __call__(self, x):
        return self.lifted(x) % self.around

    @property
    def begins(self):
        """The ascending list of the begins."""
        return [begin for begin, rest in self.rows]

    @property
    def period(self):
        """The least divisor of the round by which the turning may be moved onto itself."""
        return self._period

    def rests(self):
        """Return the ascending list of the rests."""
        return sorted([rest for begin, rest in self.rows])

    def lifted(self, x):
        """Return the rest, on the integers, of the stretch that x lies in."""
        if not is_whole(x):
            raise BadStanding(x)
        place = x % self.around
        return self._lifts[place] + x - place

    def is_even(self):
        """Tell whether half a round moves the turning onto itself."""
        return self.around % 2 == 0 and self.around // 2 % self._period == 0

    def turned(self, c):
        """Return the turning with c added to each begin and rest."""
        if not is_whole(c):
            raise BadTurn(c)
        return Turning(self.around, _turned_rows(self.around, self.rows, c))

    def mirrored(self):
        """Return the turning that runs the other way around."""
        ends = _ends(self.around, self.rows)
        # The last integer of a stretch becomes the first one of its mirror image.
        rows = [((1 - end) % self.around, -rest % self.around)
                for (begin, rest), end in zip(self.rows, ends)]
        return Turning(self.around, sorted(rows))


def _is_pair(around, pair):
    """Tell whether pair is a tuple of two places."""
    return (isinstance(pair, tuple) and len(pair) == 2
            and is_whole_from(pair[0], 0, around - 1) and is_whole_from(pair[1], 0, around - 1))


def _check_rows(around, rows):
    """Raise BadRows if rows are not the pairs of a turning with this round."""
    if not is_row_of(rows, 1, MOST_PAIRS):
        raise BadRows(-1)
    before = -1
    for at, pair in enumerate(rows):
        if not _is_pair(around, pair) or pair[0] <= before:
            raise BadRows(at)
        before = pair[0]
    ends = _ends(around, rows)
    for at, (begin, rest) in enumerate(rows):
        if (rest - begin) % around >= ends[at] - begin:
            raise BadRows(at)


def _ends(around, rows):
    """Return where each stretch ends: the integer behind its last one."""
    begins = [begin for begin, rest in rows]
    return begins[1:] + [begins[0] + around]


def _lifts_of_places(around, rows):
    """Return the list of lifted(x) for x from 0 to around - 1."""
    lifts = [0] * around
    ends = _ends(around, rows)
    for at, (begin, rest) in enumerate(rows):
        goal = begin + (rest - begin) % around
        for x in range(begin, ends[at]):
            place = x % around
            # Only the last stretch runs beyond the round; there x lies one lap above its place.
            lifts[place] = goal - x + place
    return lifts


def _turned_rows(around, rows, c):
    """Return the tuple of the pairs moved by c, ascending."""
    return tuple(sorted([((begin + c) % around, (rest + c) % around) for begin, rest in rows]))


def _least_period(around, rows):
    """Return the least divisor of around by which the pairs may be moved onto themselves."""
    # A part of a round leaves no begin in place, so it fits at most len(rows) times.
    times = [many for many in range(1, len(rows) + 1)
             if around % many == 0 and _turned_rows(around, rows, around // many) == rows]
    return around // times[-1]


def _rows_downhill(around, widths):
    """Return the pairs of each top and the next valley upward, ascending."""
    tops = []
    valleys = []
    for x in range(around):
        rises = widths[x - 1] < widths[x]
        falls = widths[x] > widths[(x + 1) % around]
        if rises and falls:
            tops.append(x)
        if not rises and not falls:
            valleys.append(x)
    # The last top may have its valley beyond the end of the round.
    rests = [min([(valley - top) % around for valley in valleys]) + top for top in tops]
    return [(top, rest % around) for top, rest in zip(tops, rests)]
