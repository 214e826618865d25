"""The cuts of one part, and the stands that steps bring their ends to."""

from jawturns.checks import is_whole_from
from jawturns.numbering import Numbering
from jawturns.rulebook import Rulebook


class Cuts:
    """The stands (state, word, i, j) of a part for a machine, or for None."""

    def __init__(self, part, let):
        self.around = part.around
        self.book = Rulebook(let, part.words, part.period)
        self._own_words = part.words
        self._numbering = Numbering(part)

    def empty_does(self):
        """Tell whether the empty plan does."""
        return self._numbering.span == 1

    def is_end(self, stand):
        """Tell whether the stand is closed."""
        return stand[2] == stand[3]

    def is_node(self, thing):
        """Tell whether thing is a stand."""
        if not isinstance(thing, tuple) or len(thing) != 4:
            return False
        state, word, low, high = thing
        if not self.book.has_state(state) or word not in self._own_words:
            return False
        share = self._numbering.share(word)
        return is_whole_from(low, 0, share - 1) and is_whole_from(high, low, low + share - 1)

    def begun(self, rule):
        """Return the list of the stands of all cuts behind a first deed by this rule."""
        word, _, goal = rule
        share = self._numbering.share(word)
        return [(goal, word, at, at + share - 1) for at in range(share)]

    def moved(self, stand, rule):
        """Return the stand behind a step by this rule, or None if the cut is lost."""
        _, word, low, high = stand
        next_word, turn, goal = rule
        share = self._numbering.share(word)
        next_share = self._numbering.share(next_word)
        numbers = self._numbering.shifted(word, (next_word, turn), 0)
        left = numbers[low]
        right = numbers[high % share] + high // share * next_share
        if right == left + next_share:
            return None
        # Whole periods are taken off both ends, so that the left one is again in the first.
        return goal, next_word, left % next_share, right - left // next_share * next_share

    def firsts(self):
        """Return the list of all (word, turn, stand) for the first deeds."""
        return [(rule[0], rule[1], stand) for rule in self.book.first_rules() for stand in self.begun(rule)]

    def onward(self, stand):
        """Return the ascending list of all (word, turn, next stand or None) for the steps."""
        return [(rule[0], rule[1], self.moved(stand, rule)) for rule in self.book.rules_of(stand[0])]
