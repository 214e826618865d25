"""Points 80 and 81, and points 2 to 7 and 49 as far as they speak of directions."""

import random

from jawturns.directions import ahead, ascending, back, least, opposite, times, within
from jawturns.errors import BadTurn
from tests.helpers import DEEP, HUGE, NOT_ROWS, Case
from tests.plate_samples import random_direction
from tests.slow_plates import angle, mul, slow_ascending, slow_least, slow_within

LONG = 10 ** 5000
SMALL = [(a, b) for a in range(-3, 4) for b in range(-3, 4) if (a, b) != (0, 0)]
LONGS = [(LONG, 1), (LONG + 1, 1), (LONG, -1), (-LONG, 1), (1, LONG), (-1, -LONG), (2 * LONG, 2), (3 * LONG, 4 * LONG),
         (LONG, LONG + 1), (-LONG, -LONG), (0, LONG), (-LONG, 0), (0, -LONG), (LONG, 0)]
NOT_DIRECTIONS = [None, True, 0, 1, HUGE, 2.5, 1j, "", "ab", "push", [], [1, 0], [(1, 0)], (), (1,), (1, 0, 0), (0, 0),
                  (True, 0), (1, False), (0, False), (1.0, 0), (1, 0.0), (1, None), ("1", 0), (1, "0"), ((1,), 0),
                  (1, (0,)), ([1], 0), ((1, 0),), {}, {1: 0}, {(1, 0): 1}] + DEEP


class Directions(Case):

    def test_examples_of_the_interface(self):
        self.assertEqual([least((6, -4)), times((1, 1), (1, 2)), back((2, 4)), opposite((0, 3))],
                         [(3, -2), (-1, 3), (1, -2), (0, -1)])
        self.assertEqual(ascending([(0, -1), (2, 2), (1, 0), (1, 1), (-3, 0)]), [(1, 0), (1, 1), (-1, 0), (0, -1)])
        self.assertEqual([ahead((1, 1), (0, 1)), within((1, 0), (0, -1), (1, 0)), within((0, -1), (0, -1), (1, 0)),
                          within((0, 1), (2, 0), (1, 0))], [True, True, False, True])

    def test_least(self):
        for d in SMALL + LONGS:
            found = least(d=d)
            self.assertEqual(found, slow_least(d))
            self.assertIs(type(found), tuple)
            for k in (1, 2, 7, HUGE):
                self.assertEqual(least((d[0] * k, d[1] * k)), found)
        self.assertEqual([least((0, 7)), least((0, -7)), least((7, 0)), least((-7, 0))], [(0, 1), (0, -1), (1, 0), (-1, 0)])

    def test_times_and_back(self):
        for d in SMALL:
            self.assertEqual(back(d=d), slow_least((d[0], -d[1])))
            self.assertEqual(opposite(d=d), slow_least((-d[0], -d[1])))
            self.assertEqual(times(d, back(d)), (1, 0))
            for e in SMALL:
                self.assertEqual(times(d=d, e=e), mul(d, e))
                self.assertEqual(times(d, e), times(e, d))
        self.assertEqual(times((LONG, 1), (LONG, -1)), (1, 0))
        self.assertEqual(times((LONG, 1), (0, 5)), (-1, LONG))
        self.assertEqual(times((1, 1), (LONG, LONG)), (0, 1))
        self.assertEqual(back((LONG, 5 * LONG)), (1, -5))

    def test_ahead(self):
        for d in SMALL + LONGS:
            for e in SMALL + LONGS:
                self.assertIs(ahead(d=d, e=e), angle(d) < angle(e))
        # A hair's breadth apart, and the same angle.
        self.assertIs(ahead((LONG + 1, 1), (LONG, 1)), True)
        self.assertIs(ahead((LONG, 1), (LONG + 1, 1)), False)
        self.assertIs(ahead((LONG, 1), (2 * LONG, 2)), False)
        self.assertIs(ahead((LONG, -1), (LONG, 1)), False)

    def test_within(self):
        for d in SMALL:
            for low in SMALL[::3]:
                for high in SMALL[::2]:
                    self.assertIs(within(d=d, low=low, high=high), slow_within(d, low, high), (d, low, high))
        for d in SMALL + LONGS:
            self.assertIs(within(d, (2, -4), (1, -2)), True)
            self.assertIs(within(d, (1, 0), d), True)
            self.assertIs(within(d, d, (1, 1)), slow_least(d) == (1, 1))

    def test_ascending(self):
        chance = random.Random(81)
        for many in (0, 1, 2, 5, 40):
            for _ in range(20):
                row = [random_direction(chance, 5) for _ in range(many)]
                kept = list(row)
                self.assertEqual(ascending(row=row), slow_ascending(row))
                self.assertEqual(ascending(tuple(row)), slow_ascending(row))
                self.assertEqual(row, kept)
        self.assertEqual(ascending(SMALL + LONGS), slow_ascending(SMALL + LONGS))
        self.assertEqual(ascending([(3, 0), (2, 0), (5, 0)]), [(1, 0)])
        row = [(1, 0)]
        ascending(row).clear()
        self.assertEqual(row, [(1, 0)])

    def test_strange_values(self):
        for value in NOT_DIRECTIONS:
            for call in (least, back, opposite):
                self.refused(BadTurn, value, call, value)
            for call in (times, ahead):
                self.refused(BadTurn, value, call, value, None)
                self.refused(BadTurn, value, call, (1, 0), value)
            self.refused(BadTurn, value, within, value, None, 5)
            self.refused(BadTurn, value, within, (1, 0), value, "high")
            self.refused(BadTurn, value, within, (1, 0), (HUGE, 1), value)
            self.refused(BadTurn, value, ascending, [(1, 0), (0, 5), value, None])
            self.refused(BadTurn, value, ascending, (value,))
        for row in NOT_ROWS:
            self.refused(BadTurn, row, ascending, row)
