"""What the tests share: strange values, slow definitions to compare with, and samples."""

import copy
import random
import unittest

from jawturns import errors
from jawturns.turnings import Turning

HUGE = 1234567890123456789012345678901
FAR = [0, 1, -1, 5, -5, 11, 12, 13, -12, -13, 359, 360, 361, -360, -361, 725, -725, HUGE, -HUGE]

ATTRIBUTES = {
    errors.BadRound: "value",
    errors.BadRows: "at",
    errors.BadTurn: "value",
    errors.BadStanding: "value",
    errors.BadWord: "value",
    errors.BadSlack: "value",
    errors.BadPlan: "at",
    errors.BadKinds: "at",
    errors.BadLog: "at",
    errors.BadText: "at",
    errors.BadMachine: "state",
    errors.TooMany: "limit",
}


def nested(wrap, depth=40):
    value = 1
    for _ in range(depth):
        value = wrap(value)
    return value


DEEP = [
    nested(lambda value: [value]),
    nested(lambda value: (value,)),
    nested(lambda value: {"a": value}),
    nested(lambda value: [(value,), {}], 20),
    {nested(lambda value: (value,), 39): 1},
]
NOT_ROWS = [None, True, False, 0, 1, -1, HUGE, 2.5, float("nan"), 1j, "", "ab", "push",
            {}, {0: 1}, {1: (0, 1)}, {(0, 1): [2]}, DEEP[2], DEEP[4]]
NOT_INTEGERS = [None, True, False, 0.0, 1.0, 2.5, float("inf"), float("nan"), 1j, "", "1", "push",
                [], [1], [[1]], (), (1,), (1, 2), {}, {1: 2}, {(1, (2,)): [None]}] + DEEP
NOT_WORDS = [None, True, False, 0, 1, HUGE, 2.5, 1j, "", "Push", "push ", "squeezes", "pull",
             [], ["push"], [["squeeze"]], (), ("push",), {}, {"push": "squeeze"}] + DEEP
NOT_NAMES = [None, True, 0, 2.5, "", "Start", "start ", " start", "a1", "a_b", "a-b", "abcdefghijklm",
             "start\n", b"start", (), ("start",), DEEP[1]]
NOT_PAIRS = [None, True, 3, HUGE, 2.5, "", "ab", [], [3, 4], (), (3,), (3, 4, 5), {}, {3: 4},
             ((3, 4),), [(3, 4)], (3, None), (None, 4), (3, 4.0), (3.0, 4), (3, "4"), ("3", 4),
             (3, True), (True, 4), ([3], 4), (3, [4]), ((3,), (4,))] + DEEP
NOT_DEEDS = [None, True, 3, HUGE, 2.5, "", "push", [], ["push", 0], (), ("push",), ("push", 0, 0),
             {}, {"push": 0}, (("push", 0),), (0, "push"), ("push", None), ("push", True),
             ("push", 1.0), ("push", "0"), ("push", [0]), ("push", (0,)), ("pull", 0), (None, 0),
             (["push"], 0), (("push",), 0), ({}, 0), (True, 0)] + DEEP


class Case(unittest.TestCase):
    """A test case that can tell which error a call raises, to the attribute."""

    def refused(self, error, value, call, *given, **named):
        kept = copy.deepcopy((given, named))
        with self.assertRaises(errors.JawError) as caught:
            call(*given, **named)
        self.assertIs(type(caught.exception), error)
        told = vars(caught.exception)
        self.assertEqual(list(told), [ATTRIBUTES[error]])
        shown = told[ATTRIBUTES[error]]
        self.assertIs(type(shown), type(value))
        self.assertTrue(shown is value or shown == value, (shown, value))
        if plain((given, named)):
            # Unlike ==, a text also tells 1 from True and shows that nan is nan.
            self.assertEqual(repr((given, named)), repr(kept))

    def fails(self, error, call, *given, **named):
        """The call raises an error that has no attribute."""
        with self.assertRaises(errors.JawError) as caught:
            call(*given, **named)
        self.assertIs(type(caught.exception), error)
        self.assertEqual(vars(caught.exception), {})

    def put_refused(self, error, value, part, word, turning):
        """Setting part[word] = turning is refused, and the part is as before."""
        before = part.copy()
        told = [part.words, part.widths, part.period, part.around]

        def setting():
            part[word] = turning

        self.refused(error, value, setting)
        self.assertEqual(part, before)
        self.assertEqual([part.words, part.widths, part.period, part.around], told)


def plain(value):
    """Tell whether a value is of built-in kinds alone, so that its text shows all of it."""
    if isinstance(value, (list, tuple)):
        return all(plain(item) for item in value)
    if isinstance(value, dict):
        return all(plain(item) for item in value.items())
    return value is None or isinstance(value, (int, float, complex, str))


def slow_lifted(around, rows, x):
    """lifted(x) as point 10 tells it, by looking at the integers of the stretches one by one."""
    begins = [begin for begin, _ in rows]
    begins.append(begins[0] + around)
    for lap in (x // around - 1, x // around):
        for at, (_, rest) in enumerate(rows):
            low = begins[at] + lap * around
            high = begins[at + 1] + lap * around
            if low <= x < high:
                [found] = [low + y for y in range(high - low) if (low + y) % around == rest]
                return found
    raise AssertionError("x lies in no stretch")


def slow_period(around, lifted):
    """The period of a function on the integers as point 11 tells it, with several functions at once."""
    for step in range(1, around + 1):
        if around % step == 0 and all(lift(x + step) == lift(x) + step
                                      for lift in lifted for x in range(around)):
            return step
    raise AssertionError("the whole round is always a period")


def table(around, rows):
    """A quick function that gives slow_lifted."""
    lifts = [slow_lifted(around, rows, x) for x in range(around)]
    return lambda x: lifts[x % around] + x // around * around


def random_rows(chance, around, many):
    """Rows of `many` pairs, with begins and rests by chance."""
    begins = sorted(chance.sample(range(around), many))
    ends = begins[1:] + [begins[0] + around]
    return [(begin, chance.randrange(begin, end) % around) for begin, end in zip(begins, ends)]


def repeated_rows(chance, around, many, times):
    """Rows of many * times pairs that a times-th part of the round moves onto themselves."""
    step = around // times
    rows = random_rows(chance, step, many)
    # Within the shorter round the last stretch may wrap; moved on, it wraps into the next copy.
    lifted = []
    for begin, rest in rows:
        goal = begin + (rest - begin) % step
        lifted.extend([((begin + k * step) % around, (goal + k * step) % around) for k in range(times)])
    return sorted(lifted)


def sample_rows():
    """Pairs (around, rows) with rounds from 2 to 360 and 1 to 12 pairs, always the same ones."""
    chance = random.Random(20)
    found = [(2, [(0, 0)]), (2, [(1, 0)]), (2, [(0, 1)]), (2, [(1, 1)]), (2, [(0, 0), (1, 1)]),
             (12, [(3, 4), (8, 1)]), (12, [(x, x) for x in range(12)]), (12, [(7, 6)]),
             (360, [(359, 0)]), (360, [(x * 30, x * 30 + 29) for x in range(12)]),
             (360, [(x * 30 + 29, (x * 30 + 58) % 360) for x in range(12)])]
    for around in (3, 5, 12, 30, 360):
        for many in sorted({1, 2, 3, min(7, around), min(12, around)}):
            found.append((around, random_rows(chance, around, many)))
    for around, many, times in ((12, 1, 2), (12, 2, 2), (12, 2, 3), (12, 1, 12), (24, 3, 4), (60, 4, 3),
                                (60, 2, 6), (30, 2, 5), (360, 6, 2), (360, 1, 12), (360, 2, 5)):
        found.append((around, repeated_rows(chance, around, many, times)))
    return found


def sample_evens():
    """Even turnings of several rounds."""
    return [turning for turning in [Turning(around, rows) for around, rows in sample_rows()]
            if turning.is_even()]
