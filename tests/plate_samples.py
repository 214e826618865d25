"""Plates that several tests share, always the same ones."""

import math
import random

from jawturns.errors import BadRows, BadStanding
from jawturns.plates import Plate

FAR = 10 ** 6
TRIANGLE = [(0, 0), (4, 0), (1, 2)]
RIGHT = [(0, 0), (2, 0), (0, 2)]
BOX = [(0, 0), (2, 0), (2, 1), (0, 1)]
SQUARE = [(0, 0), (3, 0), (3, 3), (0, 3)]
# An eighth of a round brings the valleys and the tops to themselves. Without the two corners (-1450, 1050) and
# (1450, -1050), which are no tops, only a regular polygon could be so, and that has no whole corners.
EIGHT = [(1715, -686), (1715, 735), (700, 1750), (-750, 1750), (-1450, 1050),
         (-1715, 686), (-1715, -735), (-700, -1750), (750, -1750), (1450, -1050)]
# Pushed, it has one rest and one top.
ONE_REST = [(-9, -3), (-5, -6), (10, -6), (9, 4), (-4, 8)], (-6, 3)
# To one of its arcs that are not closed, ("squeeze", 1, 2), no steps lead.
SHORT_OF_ONE = [(-3, -1), (-1, -2), (3, -2), (3, 0), (1, 2), (-1, 3)]
STAR = [(0, 10), (-6, -8), (10, 3), (-10, 3), (6, -8)]
TWELVE = [(5, 0), (9, 1), (12, 3), (14, 6), (14, 9), (12, 12), (9, 14), (5, 14), (2, 12), (0, 9), (0, 5), (2, 2)]


def random_corners(chance, many, size):
    """So many corners by chance, none farther than size from (0, 0)."""
    while True:
        turned = chance.random()
        row = [(round(size * math.cos((k + turned + chance.random() * 0.8) * 2 * math.pi / many)),
                round(size * math.sin((k + turned + chance.random() * 0.8) * 2 * math.pi / many))) for k in range(many)]
        squeezed = [(x, y * chance.randint(1, 3) // 3) for x, y in row] if chance.random() < 0.3 else row
        try:
            return list(Plate(squeezed).corners)
        except BadRows:
            continue


def random_centre(chance, corners):
    """A centre by chance, or None if none was found."""
    low, high = min(x for x, _ in corners), max(x for x, _ in corners)
    for _ in range(20):
        centre = (chance.randint(low, high), chance.randint(low, high))
        try:
            return Plate(corners, centre).centre
        except BadStanding:
            continue
    return None


def sample_plates(seed=80, most=12, count=30, size=60):
    """Plates of 3 to most corners, with and without a centre."""
    chance = random.Random(seed)
    found = [Plate(TRIANGLE), Plate(TRIANGLE, (2, 1)), Plate(RIGHT), Plate([(0, 0), (6, 0), (0, 6)], (2, 2)), Plate(BOX),
             Plate(SQUARE), Plate([(0, 0), (4, 0), (4, 4), (0, 4)], (2, 2)), Plate([(0, 0), (4, 0), (4, 2), (0, 2)], (2, 1)),
             Plate([(0, 0), (4, 0), (4, 4), (0, 4)], (1, 2)), Plate(EIGHT), Plate(EIGHT, (0, 0)), Plate(EIGHT, (1, 0)),
             Plate(*ONE_REST), Plate(SHORT_OF_ONE)]
    found = [plate for plate in found if len(plate.corners) <= most]
    while len(found) < count:
        corners = random_corners(chance, chance.randint(3, most), chance.choice([3, 10, size]))
        found.append(Plate(corners, chance.choice([None, random_centre(chance, corners)])))
    return found


def random_direction(chance, size=20):
    """A direction by chance, often not least."""
    while True:
        d = (chance.randint(-size, size), chance.randint(-size, size))
        if d != (0, 0):
            return d


def random_course(chance, plate, many, size=20):
    """A plan of a plate by chance."""
    return [(chance.choice(plate.words), random_direction(chance, size)) for _ in range(many)]
