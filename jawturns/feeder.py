"""A feeder at work: what is possible while deeds are done."""

from jawturns.checks import checked_standings, is_whole
from jawturns.errors import BadPlan, BadStanding, BadTurn, BadWord, NothingDone
from jawturns.plans import MOST_DEEDS, Plan, after


class Feeder:
    """The standings that are possible for a part behind the deeds done so far."""

    def __init__(self, part, standings=None):
        self._standings = _begun(part.around, standings)
        self._part = part.copy()
        self._done = Plan(part.around, [])
        # What was so before each step that is not taken back: pairs (standings, plan).
        self._past = []

    def __len__(self):
        return len(self._standings)

    def __contains__(self, x):
        return x % self._part.around in self._standings

    def __iadd__(self, other):
        # Nothing is changed yet when `after` makes the checks of a plan and the sum refuses too many deeds.
        standings = after(self._part, other, self._standings)
        self._step(standings, self._done + other)
        return self

    @property
    def standings(self):
        """The ascending list of the possible standings."""
        return list(self._standings)

    @property
    def plan(self):
        """The plan of the deeds done so far."""
        return self._done

    def is_right(self):
        """Tell whether the possible standings are all alike."""
        period = self._part.period
        return len({x % period for x in self._standings}) == 1

    def squeeze(self, turn):
        """Do a squeeze and return the number of possible standings behind it."""
        return self._do("squeeze", turn)

    def push(self, turn):
        """Do a push and return the number of possible standings behind it."""
        return self._do("push", turn)

    def put(self, standings):
        """Say anew what is possible; the plan so far becomes empty."""
        self._step(_begun(self._part.around, standings), Plan(self._part.around, []))

    def undo(self):
        """Take back the last step that is not taken back yet."""
        if not self._past:
            raise NothingDone()
        standings, plan = self._past.pop()
        self._standings = standings
        self._done = plan

    def trying(self, deeds):
        """Return the numbers of possible standings behind each of the deeds, without doing them."""
        standings = self._standings
        numbers = []
        for word, turn in deeds:
            self._check_deed(word, turn, len(self._done) + len(numbers))
            standings = self._behind(standings, word, turn)
            numbers.append(len(standings))
        return numbers

    def _do(self, word, turn):
        """Do one deed as a step and return the number of possible standings behind it."""
        self._check_deed(word, turn, len(self._done))
        deed = Plan(self._part.around, [(word, turn)])
        self._step(self._behind(self._standings, word, turn), self._done + deed)
        return len(self._standings)

    def _check_deed(self, word, turn, done):
        """Raise the error of a deed that cannot follow so many done ones."""
        if word not in self._part.words:
            raise BadWord(word)
        if not is_whole(turn):
            raise BadTurn(turn)
        if done >= MOST_DEEDS:
            raise BadPlan(-1)

    def _behind(self, standings, word, turn):
        """Return the ascending list of the standings that the deed brings these to."""
        return sorted({self._part.settled(x, (word, turn)) for x in standings})

    def _step(self, standings, plan):
        """Make this what is possible and done, and keep what was so before."""
        self._past.append((self._standings, self._done))
        self._standings = standings
        self._done = plan


def _begun(around, standings):
    """Return the ascending list of the given standings, or of all places for None."""
    found = checked_standings(around, standings)
    if not found:
        raise BadStanding(-1)
    return sorted(set(found))
