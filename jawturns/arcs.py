"""The arcs of a plate, and what steps make of them, sector by sector."""

from jawturns.angles import ONE, ascending_of, taken
from jawturns.checks import is_whole_from


class Arcs:
    """The arcs (word, i, j) of a plate, as a field that is searched."""

    def __init__(self, plate):
        self._stretches = {word: plate.stretches(word) for word in plate.words}
        self._turnings = plate.turnings

    def empty_does(self):
        """Tell whether the empty plan comes right: never."""
        return False

    def is_end(self, arc):
        """Tell whether the arc is closed."""
        return arc[1] == arc[2]

    def is_node(self, thing):
        """Tell whether thing is an arc."""
        if not isinstance(thing, tuple) or len(thing) != 3:
            return False
        word, low, high = thing
        if word not in list(self._stretches):
            return False
        share = self._share(word)
        return is_whole_from(low, 0, share - 1) and is_whole_from(high, low, low + share - 1)

    def _share(self, word):
        """Return the number of rests of the word from one own turning to the next."""
        return self._stretches[word].share(self._turnings)

    def _ends(self, arc):
        """Return the two ends of the arc."""
        word, low, high = arc
        valleys = self._stretches[word].valleys
        return valleys[low], valleys[high % len(valleys)]

    def begun(self, word):
        """Return the ascending list of the first arcs of the word."""
        share = self._share(word)
        return [(word, at, at + share - 1) for at in range(share)]

    def moved(self, arc, step):
        """Return the arc behind the step, or None if the cut is lost."""
        word, turn = step
        own = self._stretches[word]
        share = self._share(word)
        low, high = [taken(end, turn) for end in self._ends(arc)]
        many = 0 if self.is_end(arc) else own.many_from(low, high)
        if many == share:
            return None
        left = own.landing(low) % share
        return word, left, left + many

    def sectors_of(self, arc, word):
        """Return the list of all (low, high, next arc or None) for steps with the word."""
        peaks = self._stretches[word].peaks
        borders = ascending_of([taken(end, peak) for end in self._ends(arc) for peak in peaks])
        return [(borders[at - 1], high, self.moved(arc, (word, high))) for at, high in enumerate(borders)]

    def firsts(self):
        """Return the list of all (word, direction, arc) for the first deeds."""
        return [(word, ONE, arc) for word in sorted(self._stretches) for arc in self.begun(word)]

    def onward(self, arc):
        """Return the list of all (word, direction, next arc or None), with one step of each sector."""
        return [(word, high, goal) for word in sorted(self._stretches) for _, high, goal in self.sectors_of(arc, word)]
