"""Lots: what is left of kinds with widths behind squeezes that showed told widths."""

from jawturns.checks import is_whole_from
from jawturns.errors import BadKinds
from jawturns.rows import check_kinds
from jawturns.rulebook import Rulebook

MOST_KINDS = 3


class KindLots:
    """The lots (state, pairs) of kinds for a machine; ends are those that are told."""

    def __init__(self, parts, let, settled):
        self.around = let.around
        self.book = Rulebook(let, [], 0)
        self._rests = [_rests_of_places(part["squeeze"]) for part in parts]
        self._shown = [part.widths for part in parts]
        self._spans = [part.period for part in parts]
        self._settled = settled

    def all_told(self):
        """Tell whether the kinds are told before any squeeze."""
        return len(self._spans) == 1 and (not self._settled or self._spans[0] == 1)

    def is_end(self, lot):
        """Tell whether the lot is told."""
        kind = lot[1][0][0]
        if not all([other == kind for other, rest in lot[1]]):
            return False
        return not self._settled or len({rest % self._spans[kind] for other, rest in lot[1]}) == 1

    def is_node(self, thing):
        """Tell whether thing is a state with rests of the kinds, of whatever widths."""
        if not isinstance(thing, tuple) or len(thing) != 2:
            return False
        state, pairs = thing
        if not self.book.has_state(state) or not isinstance(pairs, tuple) or not pairs:
            return False
        if not all([self._is_pair(pair) for pair in pairs]):
            return False
        return all([pairs[at - 1] < pairs[at] for at in range(1, len(pairs))])

    def _is_pair(self, thing):
        """Tell whether thing is a pair of a kind and one of its rests."""
        if not isinstance(thing, tuple) or len(thing) != 2:
            return False
        kind, rest = thing
        return (is_whole_from(kind, 0, len(self._rests) - 1) and is_whole_from(rest, 0, self.around - 1)
                and self._rests[kind][rest] == rest)

    def begun(self, rule):
        """Return a dict of the first lots behind a squeeze by this rule, by their widths."""
        return self._by_widths(rule[2], [(kind, rest) for kind, rests in enumerate(self._rests) for rest in rests])

    def moved(self, lot, rule):
        """Return a dict of the lots behind a step by this rule, by the widths that it may show."""
        places = [(kind, (rest - rule[1]) % self.around) for kind, rest in lot[1]]
        return self._by_widths(rule[2], [(kind, self._rests[kind][place]) for kind, place in places])

    def _by_widths(self, state, pairs):
        """Return a dict of the lots that the pairs (kind, rest) make up, by their widths."""
        lots = {}
        for kind, rest in sorted(set(pairs)):
            lots.setdefault(self._shown[kind][rest], []).append((kind, rest))
        return {width: (state, tuple(lots[width])) for width in lots}

    def width_of(self, lot):
        """Return the width that the rests of a lot that is come to show."""
        kind, rest = lot[1][0]
        return self._shown[kind][rest]

    def firsts(self):
        """Return the list of all (word, turn, lot) for the first squeezes."""
        return [(rule[0], rule[1], lot) for rule in self.book.first_rules() for lot in self.begun(rule).values()]

    def onward(self, lot):
        """Return the list of all (word, turn, next lot) for the steps, turn by turn."""
        return [(rule[0], rule[1], goal) for rule in self.book.rules_of(lot[0])
                for goal in self.moved(lot, rule).values()]


def _rests_of_places(squeeze):
    """Return the list of the rests that the places of the round come to."""
    return [squeeze(x) for x in range(squeeze.around)]


def check_shown(parts):
    """Raise BadKinds if parts is not a row of one to three kinds with widths."""
    check_kinds(parts, 1, MOST_KINDS)
    for at, part in enumerate(parts):
        if part.widths is None:
            raise BadKinds(at)
