"""Parts: the turnings of a part for the words, and the widths that the jaws show."""

from math import lcm

from jawturns.checks import check_widths, is_row_of, is_whole, is_word
from jawturns.errors import BadRound, BadRows, BadStanding, BadTurn, BadWord


class Part:
    """A turning for one of the words or for both, and perhaps widths."""

    def __init__(self, squeeze=None, push=None, widths=None):
        turnings = {}
        if push is not None:
            turnings["push"] = push
            around = push.around
        if squeeze is not None:
            turnings["squeeze"] = squeeze
            around = squeeze.around
        if not turnings:
            raise BadWord("")
        if push is not None and push.around != around:
            raise BadRound(push.around)
        if squeeze is not None:
            _check_even(squeeze)
        if widths is not None:
            _check_shown(squeeze, around, widths)
            widths = tuple(widths)
        self.around = around
        self._turnings = turnings
        self._widths = widths

    def __eq__(self, other):
        return (isinstance(other, Part) and self._turnings == other._turnings
                and self._widths == other._widths)

    def __iter__(self):
        raise TypeError("a part is not iterated over")

    def __getitem__(self, at):
        if not is_word(at) or at not in self._turnings:
            raise BadWord(at)
        return self._turnings[at]

    def __setitem__(self, at, worth):
        if not is_word(at):
            raise BadWord(at)
        if worth is None:
            self._take_out(at)
        else:
            self._put_in(at, worth)

    def _take_out(self, word):
        """Leave only the other word, or raise BadWord if the part does not have it."""
        if self.words == [word]:
            raise BadWord(word)
        self._turnings = {other: self._turnings[other] for other in self._turnings if other != word}
        if word == "squeeze":
            self._widths = None

    def _put_in(self, word, turning):
        """Give the word this turning."""
        if turning.around != self.around:
            raise BadRound(turning.around)
        if word == "squeeze":
            _check_even(turning)
        self._turnings[word] = turning

    @property
    def words(self):
        """The ascending list of the words that the part has."""
        return sorted(self._turnings)

    @property
    def period(self):
        """The least divisor of the round by which all turnings may be moved onto themselves."""
        period = 1
        for turning in self._turnings.values():
            period = lcm(period, turning.period)
        return period

    @property
    def widths(self):
        """The list of the widths, or None."""
        if self._widths is None:
            return None
        return list(self._widths)

    def rests(self, word):
        """Return the ascending list of the rests of the word below the period."""
        turning = self[word]
        period = self.period
        return [rest for rest in turning.rests() if rest < period]

    def settled(self, standing, deed):
        """Return the place to which the deed brings the standing."""
        word, turn = deed
        turning = self[word]
        if not is_whole(turn):
            raise BadTurn(turn)
        if not is_whole(standing):
            raise BadStanding(standing)
        return (turning.lifted(standing - turn) + turn) % self.around

    def width(self, x):
        """Return the width at the place of x."""
        if self._widths is None:
            raise BadWord("squeeze")
        if not is_whole(x):
            raise BadStanding(x)
        return self._widths[x % self.around]

    def turned(self, c):
        """Return the part with its turnings and widths turned by c."""
        # The turnings themselves refuse a bad turn.
        turnings = {word: self._turnings[word].turned(c) for word in self._turnings}
        return _part_of(turnings, self._widths, [x - c for x in range(self.around)])

    def mirrored(self):
        """Return the part with its turnings and widths mirrored."""
        turnings = {word: self._turnings[word].mirrored() for word in self._turnings}
        return _part_of(turnings, self._widths, [-x for x in range(self.around)])

    def copy(self):
        """Return an equal part of its own."""
        return _part_of(self._turnings, self._widths, list(range(self.around)))


def _part_of(turnings, widths, origins):
    """Return the part of these turnings that shows at place x the width at origins[x]."""
    shown = None
    if widths is not None:
        shown = [widths[x % len(widths)] for x in origins]
    return Part(turnings.get("squeeze"), turnings.get("push"), shown)


def _check_even(squeeze):
    """Raise BadRows for a squeeze that could tell the two jaws apart."""
    if not squeeze.is_even():
        raise BadRows(-1)


def _check_shown(squeeze, around, widths):
    """Raise the error of point 14 for widths that a part cannot show."""
    if squeeze is None:
        raise BadWord("squeeze")
    if not is_row_of(widths, around, around):
        raise BadRows(-1)
    check_widths(widths)
    for at in range(around):
        if widths[at] != widths[(at + around // 2) % around]:
            raise BadRows(at)
