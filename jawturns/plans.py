"""Plans: lists of deeds, and what they leave possible."""

from jawturns.checks import check_round, checked_standings, is_deed, is_row_of, is_whole
from jawturns.errors import BadPlan, BadRound, BadStanding, BadTurn, BadWord

MOST_DEEDS = 400


class Plan:
    """A list of deeds (word, turn) for a round. It never changes."""

    def __init__(self, around, deeds):
        check_round(around)
        if not is_row_of(deeds, 0, MOST_DEEDS):
            raise BadPlan(-1)
        for at, deed in enumerate(deeds):
            if not is_deed(deed):
                raise BadPlan(at)
        self.around = around
        self.deeds = tuple([(word, turn % around) for word, turn in deeds])

    def __len__(self):
        return len(self.deeds)

    def __eq__(self, other):
        return isinstance(other, Plan) and self.around == other.around and self.deeds == other.deeds

    def __iter__(self):
        return iter(self.deeds)

    def __getitem__(self, at):
        if at.__class__.__name__ == "slice":
            return Plan(self.around, self.deeds[at])
        if not is_whole(at) or not -len(self.deeds) <= at < len(self.deeds):
            raise BadPlan(at)
        return self.deeds[at]

    def __add__(self, other):
        if self.around != other.around:
            raise BadRound(other.around)
        return Plan(self.around, self.deeds + other.deeds)

    def __mul__(self, other):
        if not is_whole(other) or other < 0 or len(self.deeds) * other > MOST_DEEDS:
            raise BadPlan(-1)
        # The empty plan may be repeated more often than a tuple can be.
        return Plan(self.around, self.deeds * min(other, MOST_DEEDS))

    def __rmul__(self, other):
        return self * other

    def __rshift__(self, other):
        if not is_whole(other):
            raise BadTurn(other)
        return Plan(self.around, [(word, turn + other) for word, turn in self.deeds])


def check_plan(part, plan):
    """Make the checks of a plan: the part's round, and words that the part has."""
    if plan.around != part.around:
        raise BadRound(plan.around)
    words = part.words
    for word, turn in plan.deeds:
        if word not in words:
            raise BadWord(word)


def carried(part, plan, x):
    """Return where the plan carries the integer x, without taking it modulo the round."""
    check_plan(part, plan)
    if not is_whole(x):
        raise BadStanding(x)
    return _carried_all(part, plan, [x])[0]


def after(part, plan, standings=None):
    """Return the ascending list of the standings that are possible behind the plan."""
    check_plan(part, plan)
    left = checked_standings(part.around, standings)
    for deed in plan.deeds:
        left = sorted({part.settled(x, deed) for x in left})
    # Without a deed the standings may still be unsorted, with duplicates.
    return sorted(set(left))


def counts(part, plan):
    """Return how many unlike standings are possible before the first deed and behind each."""
    return [len(standings) for standings in _unlike(part, plan)]


def does(part, plan):
    """Tell whether the plan turns the part right."""
    return len(_unlike(part, plan)[-1]) == 1


def ends(part, plan):
    """Return the standing modulo the period that the plan ends at, or None if it does not do."""
    left = _unlike(part, plan)[-1]
    if len(left) == 1:
        return left[0]
    return None


def joint(part, plan):
    """Return the least cut behind which the round comes to one standing, or None."""
    check_plan(part, plan)
    period = part.period
    firsts = _carried_all(part, plan, list(range(period)))
    # What lies s - 1 behind x is the one before x, one period on.
    lasts = firsts[-1:] + [x + period for x in firsts[:-1]]
    for x in range(period):
        if firsts[x] == lasts[x]:
            return x
    return None


def _carried_all(part, plan, places):
    """Return where the plan, already checked, carries each of the integers."""
    for word, turn in plan.deeds:
        turning = part[word]
        places = [turning.lifted(x - turn) + turn for x in places]
    return places


def _unlike(part, plan):
    """Return the lists of the standings modulo the period, before the first deed and behind each."""
    check_plan(part, plan)
    period = part.period
    left = list(range(period))
    steps = [left]
    for deed in plan.deeds:
        left = sorted({part.settled(x, deed) % period for x in left})
        steps.append(left)
    return steps
