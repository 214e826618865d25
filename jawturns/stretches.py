"""The stretches of one word of a plate, between tops, each with the valley that it falls to."""

from jawturns.angles import is_ahead, many_up_to


class Stretches:
    """Valleys and tops, ascending; they alternate around the round."""

    def __init__(self, valleys, peaks):
        self.valleys = tuple(valleys)
        self.peaks = tuple(peaks)
        # A valley ahead of the first top belongs to the last one.
        self._first = 1 if is_ahead(valleys[0], peaks[0]) else 0

    def share(self, turnings):
        """Return the number of valleys in one of so many equal parts of the round."""
        return len(self.valleys) // turnings

    def landing(self, u):
        """Return the index of the valley of the stretch that u lies in."""
        return (many_up_to(self.peaks, u) - 1 + self._first) % len(self.valleys)

    def landings(self, row):
        """Return the list of the indexes of the valleys to which the directions of the row fall."""
        return [self.landing(u) for u in row]

    def many_from(self, low, high):
        """Return the number of tops behind low, counterclockwise up to high, which is not low."""
        many = many_up_to(self.peaks, high) - many_up_to(self.peaks, low)
        return many + len(self.peaks) if is_ahead(high, low) else many
