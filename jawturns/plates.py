"""Plates: convex parts with whole corners, between jaws that may close at any direction."""

from math import gcd

from jawturns.angles import added, ascending_of, cross, is_ahead, is_direction, least_of, taken
from jawturns.checks import is_row_of, is_whole, is_whole_from
from jawturns.errors import BadRows, BadStanding, BadTurn, BadWord
from jawturns.heights import edges_of, lift, rests_and_tops
from jawturns.stretches import Stretches

LEAST_CORNERS = 3
MOST_CORNERS = 12
FARTHEST = 10 ** 6
GREATEST_SCALE = 1000
# The numbers of own turnings, the greatest first, each with the least of these turnings.
OWN_TURNINGS = ((8, (1, 1)), (4, (0, 1)), (2, (-1, 0)))


class Plate:
    """A convex polygon, perhaps with a centre inside. It never changes."""

    def __init__(self, corners, centre=None):
        _check_corners(corners)
        _check_centre(corners, centre)
        first = list(corners).index(min(corners))
        self.corners = (*corners[first:], *corners[:first])
        self.centre = centre
        self._stretches = {"squeeze": _stretches_of(self.corners, None)}
        if centre is not None:
            self._stretches["push"] = _stretches_of(self.corners, centre)
        self.turnings = _many_turnings(self._stretches)

    def __eq__(self, other):
        return isinstance(other, Plate) and self.corners == other.corners and self.centre == other.centre

    @property
    def words(self):
        """The ascending list of the words that the plate has."""
        return sorted(self._stretches)

    def stretches(self, word):
        """Return the stretches of the word."""
        if word not in self.words:
            raise BadWord(word)
        return self._stretches[word]

    def rests(self, word):
        """Return the ascending list of the valleys of the word."""
        return list(self.stretches(word).valleys)

    def tops(self, word):
        """Return the ascending list of the tops of the word."""
        return list(self.stretches(word).peaks)

    def settled(self, standing, deed):
        """Return the direction to which the deed brings the standing."""
        word, turn = deed
        own = self.stretches(word)
        if not is_direction(turn):
            raise BadTurn(turn)
        if not is_direction(standing):
            raise BadStanding(standing)
        valley = own.valleys[own.landing(taken(standing, turn))]
        return least_of(added(valley, turn))

    def width(self, u):
        """Return the square of the width between the jaws at the standing u, as (top, bottom)."""
        if not is_direction(u):
            raise BadStanding(u)
        lifts = [lift(corner, u) for corner in self.corners]
        top = (max(lifts) - min(lifts)) ** 2
        bottom = u[0] ** 2 + u[1] ** 2
        most = gcd(top, bottom)
        return top // most, bottom // most

    def moved(self, x, y):
        """Return the plate with x and y added to each corner and to the centre."""
        for number in (x, y):
            if not is_whole(number):
                raise BadTurn(number)
        return _plate_of(self.corners, self.centre, lambda place: (place[0] + x, place[1] + y))

    def scaled(self, k):
        """Return the plate with each corner and the centre multiplied by k."""
        if not is_whole_from(k, 1, GREATEST_SCALE):
            raise BadTurn(k)
        return _plate_of(self.corners, self.centre, lambda place: (place[0] * k, place[1] * k))

    def quarter(self):
        """Return the plate turned counterclockwise by a quarter of a round."""
        return _plate_of(self.corners, self.centre, lambda place: (-place[1], place[0]))

    def mirrored(self):
        """Return the plate with left and right exchanged."""
        return _plate_of(self.corners[::-1], self.centre, lambda place: (-place[0], place[1]))


def _plate_of(corners, centre, image):
    """Return the plate of the images of the corners and of the centre."""
    return Plate([image(corner) for corner in corners], None if centre is None else image(centre))


def _is_place(x):
    """Tell whether x may be a corner or a centre."""
    return (isinstance(x, tuple) and len(x) == 2
            and is_whole_from(x[0], -FARTHEST, FARTHEST) and is_whole_from(x[1], -FARTHEST, FARTHEST))


def _check_corners(corners):
    """Raise BadRows if corners are not those of a convex polygon, counterclockwise."""
    if not is_row_of(corners, LEAST_CORNERS, MOST_CORNERS):
        raise BadRows(-1)
    for at, corner in enumerate(corners):
        if not _is_place(corner):
            raise BadRows(at)
    edges = edges_of(corners)
    for at, edge in enumerate(edges):
        if cross(edges[at - 1], edge) <= 0:
            raise BadRows(at)
    # Once around, the angle of the edges falls back only where it passes the beginning of the round.
    if len([at for at, edge in enumerate(edges) if is_ahead(edge, edges[at - 1])]) != 1:
        raise BadRows(-1)


def _check_centre(corners, centre):
    """Raise BadStanding if the centre is neither None nor strictly inside."""
    if centre is None:
        return
    if not _is_place(centre):
        raise BadStanding(centre)
    for (x, y), edge in zip(corners, edges_of(corners)):
        if cross(edge, (centre[0] - x, centre[1] - y)) <= 0:
            raise BadStanding(centre)


def _stretches_of(corners, centre):
    """Return the stretches of the push for a centre, or of the squeeze for None."""
    rests, tops = rests_and_tops(corners, centre)
    return Stretches(rests, tops)


def _many_turnings(stretches):
    """Return how many own turnings there are with these stretches of the words."""
    for many, turning in OWN_TURNINGS:
        if all([_keeps(own, turning) for own in stretches.values()]):
            return many
    return 1


def _keeps(own, turning):
    """Tell whether the turning brings the valleys and the tops to themselves."""
    return all([ascending_of([added(d, turning) for d in row]) == list(row) for row in (own.valleys, own.peaks)])
