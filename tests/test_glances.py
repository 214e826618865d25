"""Points 87, 98 and 99, and points 2 to 7 and 49 as far as they speak of glances."""

import random
from fractions import Fraction

from jawturns.errors import BadKinds, BadLog, BadPlan, BadStanding, BadWord
from jawturns.glances import apart, shown, where_now
from jawturns.parts import Part
from jawturns.plates import Plate
from tests.helpers import DEEP, HUGE, NOT_PAIRS, NOT_ROWS, Case
from tests.plate_samples import (BOX, EIGHT, RIGHT, SQUARE, TRIANGLE, random_course, random_direction, sample_plates)
from tests.samples import ODD
from tests.slow_plates import SlowPlate, mul, slow_ascending
from tests.test_directions import LONG, NOT_DIRECTIONS
from tests.test_sectors import PlanCase, strange_deeds

ONE = Plate(TRIANGLE)
TWO = Plate(RIGHT)
BOTH = Plate(TRIANGLE, (2, 1))
GLANCE = ((1, 0), (2, 1))


def slow(plate):
    return SlowPlate(plate.corners, plate.centre)


def slow_where(plates, log):
    """Point 99 by following the rests of every beginning, deed by deed."""
    found = []
    for kind, plate in enumerate(plates):
        told = slow(plate)
        standings = []
        for u in told.beginnings(("squeeze", log[0][0])):
            fits = True
            for a, (top, bottom) in log:
                u = told.settled(u, ("squeeze", a))
                width = told.height("squeeze", mul(u, (a[0], -a[1])))
                fits = fits and width == Fraction(top, bottom)
            if fits:
                standings.append(u)
        found.extend([(kind, u) for u in slow_ascending(standings)])
    return found


def slow_apart(plates, plan):
    answers = [{tuple(slow(plate).shown(plan, u)) for u in slow(plate).beginnings(plan[0])} for plate in plates]
    return not any(one & other for at, one in enumerate(answers) for other in answers[:at])


def some_kinds(seed, count):
    """Rows of one to three plates; some are equal, or a plate turned or mirrored."""
    chance = random.Random(seed)
    plates = sample_plates(seed, 6, 30, 8)
    found = []
    while len(found) < count:
        kinds = [chance.choice(plates) for _ in range(chance.choice([1, 2, 2, 3]))]
        if len(kinds) > 1 and chance.random() < 0.5:
            kinds[1] = chance.choice([kinds[0], kinds[0].quarter(), kinds[0].mirrored(), kinds[0].moved(3, 1),
                                      kinds[0].scaled(2), Plate(kinds[0].corners)])
        found.append(kinds)
    return found


class Shown(PlanCase):

    def test_example_of_the_interface(self):
        self.assertEqual([shown(ONE, [("squeeze", (1, 0))], (1, 1)), apart([ONE, TWO], [("squeeze", (1, 0))])],
                         [[(64, 13)], True])

    def test_by_definition(self):
        chance = random.Random(150)
        pushes = 0
        for plate in sample_plates(151, 10, 40):
            told = slow(plate)
            for many in (0, 1, 2, 4):
                plan = random_course(chance, plate, many)
                for u in [random_direction(chance) for _ in range(2)] + (told.beginnings(plan[0])[-2:] if plan else []):
                    answer = told.shown(plan, u)
                    self.assertEqual(shown(plate=plate, plan=plan, standing=u), answer)
                    self.assertEqual(shown(plate, tuple(plan), (u[0] * 5, u[1] * 5)), answer)
                    pushes += answer.count(None)
        self.assertGreater(pushes, 30)

    def test_long_directions(self):
        plan = [("squeeze", (LONG, 0)), ("push", (LONG, LONG)), ("squeeze", (0, 7))]
        short = [("squeeze", (1, 0)), ("push", (1, 1)), ("squeeze", (0, 1))]
        for u in ((1, 10 ** 9), (-1, 10 ** 9), (0, LONG)):
            self.assertEqual(shown(BOTH, plan, u), slow(BOTH).shown(short, u))
        # Next to the top (0, 1), however near, the plate falls to its own side.
        for u, near in (((1, LONG), (1, 99)), ((-1, LONG), (-1, 99))):
            self.assertEqual(shown(BOTH, plan, u), shown(BOTH, short, near))

    def test_400_deeds(self):
        chance = random.Random(152)
        plan = random_course(chance, BOTH, 400)
        told = shown(BOTH, plan, (1, 0))
        self.assertEqual([len(told), told[:40]], [400, slow(BOTH).shown(plan[:40], (1, 0))])
        self.assertEqual([None if word == "push" else "seen" for word, _ in plan],
                         [None if one is None else "seen" for one in told])

    def test_errors_in_order(self):
        self.plans_checked(lambda plate, plan: shown(plate, plan, None))
        for value in NOT_DIRECTIONS:
            self.refused(BadStanding, value, shown, ONE, [("squeeze", (1, 0))], value)
            self.refused(BadStanding, value, shown, ONE, [], value)

    def test_it_belongs_to_the_caller(self):
        plan = [("squeeze", (1, 0))]
        shown(ONE, plan, (1, 1)).clear()
        self.assertEqual([shown(ONE, plan, (1, 1)), plan], [[(64, 13)], [("squeeze", (1, 0))]])


class Where(Case):

    def test_example_of_the_interface(self):
        self.assertEqual(where_now([ONE, TWO], [GLANCE]), [(1, (1, 1)), (1, (-1, -1))])

    def test_by_following_every_beginning(self):
        chance = random.Random(153)
        some = {0: 0, 1: 0, 2: 0}
        for kinds in some_kinds(154, 60):
            for many in (1, 2, 3):
                turns = [random_direction(chance, 6) for _ in range(many)]
                told = slow(chance.choice(kinds))
                answer = told.shown([("squeeze", a) for a in turns], chance.choice(told.beginnings(("squeeze", turns[0]))))
                log = []
                for a, (top, bottom) in zip(turns, answer):
                    k = chance.randint(1, 4)
                    log.append((a, (top * k, bottom * k)))
                found = where_now(plates=kinds, log=log)
                self.assertEqual(found, slow_where(kinds, log))
                self.assertEqual(where_now(tuple(kinds), tuple(log)), found)
                self.assertGreater(len(found), 0)
                some[min(2, len({kind for kind, _ in found}))] += 1
                wrong = log[:-1] + [(log[-1][0], (log[-1][1][0] + 1, log[-1][1][1]))]
                self.assertEqual(where_now(kinds, wrong), slow_where(kinds, wrong))
                some[0] += not where_now(kinds, wrong)
        self.assertGreater(min(some.values()), 20)

    def test_fractions_that_are_not_in_lowest_terms(self):
        told = where_now([ONE, TWO], [GLANCE])
        for k in (2, 3, 60, HUGE, LONG):
            self.assertEqual(where_now([ONE, TWO], [((1, 0), (2 * k, k))]), told)
        for fraction in ((2, 2), (1, 1), (-2, 1), (0, 1), (0, HUGE), (HUGE, 1), (1, 2), (4, 1)):
            found = where_now([ONE, TWO], [((1, 0), fraction)])
            self.assertEqual(found, slow_where([ONE, TWO], [((1, 0), fraction)]))

    def test_standings_of_long_directions(self):
        a = (LONG, 2 * LONG - 1)
        told = slow_ascending([mul((1, 1), a), mul((-1, -1), a)])
        self.assertEqual(where_now([TWO], [(a, (2, 1))]), [(0, d) for d in told])
        self.assertEqual(where_now([TWO], [((6, 0), (2, 1))]), [(0, (1, 1)), (0, (-1, -1))])

    def test_equal_plates(self):
        self.assertEqual(where_now([TWO, TWO, TWO], [GLANCE]), [(kind, u) for kind in range(3) for u in ((1, 1), (-1, -1))])

    def test_1_and_40_pairs_and_one_more(self):
        self.assertEqual(len(where_now([TWO], [GLANCE] * 40)), 2)
        for log in ([], (), [GLANCE] * 41, [None] * 41, (GLANCE,) * 50):
            self.refused(BadLog, -1, where_now, [TWO], log)

    def test_strange_logs(self):
        for log in NOT_ROWS:
            self.refused(BadLog, -1, where_now, [TWO], log)
        pairs = [None, True, 3, "", "ab", [], (), ((1, 0),), ((1, 0), (2, 1), 0), [(1, 0), (2, 1)], {}, (2, 1), (1, 0)] + DEEP
        pairs.extend([(value, (2, 1)) for value in NOT_DIRECTIONS])
        pairs.extend([((1, 0), value) for value in NOT_PAIRS + [(2, 0), (2, -1), (0, 0), (HUGE, -HUGE), (2, 1.0), (True, 1)]])
        for pair in pairs:
            self.refused(BadLog, 0, where_now, [TWO], [pair, None])
            self.refused(BadLog, 2, where_now, [TWO], (GLANCE, ((0, 3), (-5, 7)), pair))

    def test_the_kinds_first(self):
        kinds_first(self, lambda plates: where_now(plates, None))

    def test_nothing_is_changed(self):
        log = [GLANCE]
        told = where_now([ONE, TWO], log)
        where_now([ONE, TWO], log).clear()
        self.assertEqual([where_now([ONE, TWO], log), log], [told, [GLANCE]])


def kinds_first(case, call):
    """call(plates) refuses rows that are no kinds."""
    for plates in NOT_ROWS + [[], (), [ONE] * 4, (ONE,) * 9, [None] * 4]:
        case.refused(BadKinds, -1, call, plates)
    for value in [None, True, 3, "", "plate", [ONE], (), {}, BOX, Part(push=ODD)] + DEEP:
        case.refused(BadKinds, 0, call, [value])
        case.refused(BadKinds, 1, call, (ONE, value, None))
        case.refused(BadKinds, 2, call, [ONE, ONE, value])


class Apart(PlanCase):

    def test_by_following_every_beginning(self):
        chance = random.Random(155)
        found = {True: 0, False: 0}
        for kinds in some_kinds(156, 70):
            for many in (1, 2, 3):
                words = [word for word in kinds[0].words if all(word in plate.words for plate in kinds)]
                plan = [(chance.choice(words), random_direction(chance, 6)) for _ in range(many)]
                told = slow_apart(kinds, plan)
                self.assertIs(apart(plates=kinds, plan=plan), told)
                self.assertIs(apart(tuple(kinds), tuple(plan)), told)
                if len(kinds) > 1:
                    found[told] += 1
        self.assertGreater(min(found.values()), 30)

    def test_one_kind_and_the_empty_plan(self):
        for plan in ([], (), [("squeeze", (1, 0))]):
            self.assertIs(apart([ONE], plan), True)
            self.assertIs(apart([ONE, ONE], plan), False)
            self.assertIs(apart([ONE, TWO, Plate(EIGHT)], plan), len(plan) > 0)
        self.assertIs(apart([BOTH, Plate(SQUARE, (1, 1))], [("push", (1, 0))]), False)

    def test_what_the_third_kind_shows(self):
        plan = [("squeeze", (1, 0))]
        for kinds in ([ONE, TWO, ONE], [ONE, TWO, TWO], [TWO, TWO, ONE]):
            self.assertIs(apart(kinds, plan), False)
        # A plate turned by a quarter shows the same widths somewhere.
        self.assertIs(apart([ONE, ONE.quarter()], plan), False)
        self.assertIs(apart([ONE, ONE.scaled(3)], plan), True)

    def test_checks_for_each_kind_in_turn(self):
        kinds_first(self, lambda plates: apart(plates, None))
        self.plans_checked(lambda plate, plan: apart([plate], plan))
        self.plans_checked(lambda plate, plan: apart((BOTH, plate), plan))
        self.refused(BadWord, "push", apart, [BOTH, BOTH, ONE], [("squeeze", (1, 0)), ("push", (1, 0))])
        for value in strange_deeds():
            self.refused(BadPlan, 1, apart, [ONE, BOTH], [("push", (1, 0)), value])
        self.refused(BadPlan, -1, apart, [ONE, BOTH], [("squeeze", (1, 0))] * 401)
        self.assertIs(apart([ONE, TWO], [("squeeze", (1, 0))] * 400), True)
