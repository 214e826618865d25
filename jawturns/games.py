"""The search for the least number of squeezes that tells kinds apart at the worst."""

from jawturns.searches import reached

MOST_LOTS = 600


class Game:
    """The lots that are come to, with the least numbers of squeezes, up to most, that tell them.

    Steps are pairs (turn, lots that the step may lead to).
    """

    def __init__(self, lots, most):
        self.lots = lots
        found = reached(lots, MOST_LOTS)
        self.table = {lot: _by_turns(found[lot]) for lot in found}
        self.first_steps = _by_turns(lots.firsts())
        self.numbers = _numbers(lots, self.table, most)
        self.worst = _worst(self.first_steps, self.numbers, most)


def choice(steps, numbers):
    """Return (number, turn, lots) of a step with the least number at the worst, or None if there is none."""
    best = None
    for turn, lots in steps:
        if all([lot in numbers for lot in lots]):
            number = max([numbers[lot] for lot in lots]) + 1
            if best is None or number < best[0]:
                best = (number, turn, lots)
    return best


def _by_turns(steps):
    """Return the list of the pairs (turn, lots) of steps (word, turn, lot)."""
    lots = {}
    for _, turn, lot in steps:
        lots.setdefault(turn, []).append(lot)
    return [(turn, lots[turn]) for turn in lots]


def _numbers(lots, table, most):
    """Return a dict of the least numbers, up to most, of the lots that may be told."""
    numbers = {lot: 0 for lot in table if lots.is_end(lot)}
    for number in range(1, most + 1):
        # Numbers of this round do not count in it, so that each lot gets its least one.
        told = [lot for lot in table if lot not in numbers and choice(table[lot], numbers) is not None]
        if not told:
            break
        for lot in told:
            numbers[lot] = number
    return numbers


def _worst(first_steps, numbers, most):
    """Return the least number of squeezes that tells the kinds at the worst, or None if it is more than most."""
    best = choice(first_steps, numbers)
    if best is None or best[0] > most:
        return None
    return best[0]
