"""Rows: what is left of one, two or three kinds behind a plan."""

from jawturns.checks import is_row_of, is_whole_from
from jawturns.errors import BadKinds
from jawturns.machines import check_let
from jawturns.numbering import Numbering
from jawturns.parts import Part
from jawturns.rulebook import Rulebook
from jawturns.searches import reached

MOST_ROWS = 600


class Rows:
    """The rows (state, word, lefts) of kinds for a machine. None of them is an end here."""

    def __init__(self, parts, let, spread=0):
        self.around = let.around
        self.book = Rulebook(let, [], 0)
        self.numberings = [Numbering(part) for part in parts]
        self._common = [word for word in parts[0].words if all([word in part.words for part in parts])]
        self._spread = spread
        self._kept_lefts = {}

    def is_end(self, row):
        """Tell whether the row is one that is looked for."""
        return False

    def is_node(self, thing):
        """Tell whether thing is a row."""
        if not isinstance(thing, tuple) or len(thing) != 3:
            return False
        state, word, lefts = thing
        if not self.book.has_state(state) or word not in self._common:
            return False
        if not isinstance(lefts, tuple) or len(lefts) != len(self.numberings):
            return False
        return all([_is_left(left, numbering.share(word))
                    for left, numbering in zip(lefts, self.numberings)])

    def moved(self, row, rule):
        """Return the row behind a step by this rule."""
        _, word, lefts = row
        step = (rule[0], rule[1])
        behind = tuple([self._left_behind(kind, word, left, step) for kind, left in enumerate(lefts)])
        return rule[2], rule[0], behind

    def firsts(self):
        """Return the list of all (word, turn, row) for the first deeds."""
        return [(word, turn, (goal, word, self._all_left(word)))
                for word, turn, goal in self.book.first_rules()]

    def onward(self, row):
        """Return the ascending list of all (word, turn, next row) for the steps."""
        return [(rule[0], rule[1], self.moved(row, rule)) for rule in self.book.rules_of(row[0])]

    def _all_left(self, word):
        """Return the indices of all rests of the word, for each kind."""
        return tuple([tuple(range(numbering.share(word))) for numbering in self.numberings])

    def _left_behind(self, kind, word, left, step):
        """Return the ascending tuple of the indices that a step leaves of those of one kind."""
        # Kinds come to the same indices in many rows.
        key = (kind, word, left, step)
        if key not in self._kept_lefts:
            self._kept_lefts[key] = lefts_behind(self.numberings[kind], word, left, step, self._spread)
        return self._kept_lefts[key]


def lefts_behind(numbering, word, left, step, spread):
    """Return the ascending tuple of the indices of the rests that the left ones may come to."""
    share = numbering.share(step[0])
    lows = numbering.shifted(word, step, -spread)
    highs = numbering.shifted(word, step, spread)
    # Between two integers that come to neighbouring rests there is none that comes to another.
    numbers = [number for at in left for number in range(lows[at], highs[at] + 1)]
    return tuple(sorted({number % share for number in numbers}))


def check_kinds(parts, least, most):
    """Raise BadKinds if parts is not a row of least to most parts with one round."""
    if not is_row_of(parts, least, most):
        raise BadKinds(-1)
    for at, part in enumerate(parts):
        if not isinstance(part, Part) or part.around != parts[0].around:
            raise BadKinds(at)


def check_lets(parts, let):
    """Make the checks of a machine for one part after the other."""
    for part in parts:
        check_let(part, let)


def all_reached(parts, let, spread=0):
    """Return the ascending list of all rows that are come to, or raise TooMany."""
    return sorted(reached(Rows(parts, let, spread), MOST_ROWS))


def _is_left(left, share):
    """Tell whether left is an ascending tuple of one or more of the indices below share."""
    if not isinstance(left, tuple) or not left:
        return False
    if not all([is_whole_from(at, 0, share - 1) for at in left]):
        return False
    return all([left[k - 1] < left[k] for k in range(1, len(left))])
