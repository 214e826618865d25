"""The rests of a part, numbered over all integers."""


class Numbering:
    """The rests of each word of a part: number q * m + i is rest i of m, q periods further on."""

    def __init__(self, part):
        self.span = part.period
        self._rests = {word: part.rests(word) for word in part.words}
        self._numbers = {word: _numbers_of_places(part[word], part.rests(word), part.period)
                         for word in part.words}
        self._shifted = {}

    def share(self, word):
        """Return how many rests of the word lie in a period."""
        return len(self._rests[word])

    def place(self, word, at):
        """Return the place of one of the rests 0 to m - 1 of the word."""
        return self._rests[word][at]

    def number(self, word, x):
        """Return the number of the rest that the word's turning brings the integer x to."""
        laps, place = divmod(x, self.span)
        return self._numbers[word][place] + laps * len(self._rests[word])

    def shifted(self, word, step, shift):
        """Return the numbers that a step brings the rests 0 to m - 1 of the word to.

        Each of the rests counts as lying further on by the shift.
        """
        # A step is asked for once for each of the stands or rows from which it is done.
        key = (word, step, shift)
        if key not in self._shifted:
            self._shifted[key] = [self.number(step[0], rest - step[1] + shift) for rest in self._rests[word]]
        return self._shifted[key]


def _numbers_of_places(turning, rests, span):
    """Return the list of the numbers of the rests that the places of a period come to."""
    indexes = {rest: at for at, rest in enumerate(rests)}
    numbers = []
    for x in range(span):
        laps, place = divmod(turning.lifted(x), span)
        numbers.append(indexes[place] + laps * len(rests))
    return numbers
