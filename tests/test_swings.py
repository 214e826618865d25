"""Points 87 and 97, and points 2 to 7 and 49 as far as they speak of swings."""

import random

from jawturns.errors import BadPlan, BadWord
from jawturns.plates import Plate
from jawturns.quickest import comes_right, quickest
from jawturns.swings import swings
from tests.helpers import HUGE, NOT_INTEGERS
from tests.plate_samples import BOX, EIGHT, ONE_REST, SQUARE, TRIANGLE, random_course, random_direction, sample_plates
from tests.slow_plates import SlowPlate, div, middle, mul, slow_ascending
from tests.test_sectors import PlanCase

PLATE = Plate(BOX)
PLAN = [("squeeze", (1, 0)), ("squeeze", (1, 2))]


def with_deed(plan, at, direction):
    """The plan with another direction of the deed at this index."""
    return [(word, direction if k == at else d) for k, (word, d) in enumerate(plan)]


def slow_borders(plate, plan, at):
    """The borders of point 97."""
    told = SlowPlate(plate.corners, plate.centre)
    word = plan[at][0]
    found = []
    if at > 0:
        found.extend([div(u, top) for u in told.left(plan[:at]) for top in told.peaks[word]])
    if at < len(plan) - 1:
        v, b = plan[at + 1]
        found.extend([div(mul(top, b), rest) for rest in told.valleys[word] for top in told.peaks[v]])
    return slow_ascending(found)


class Swings(PlanCase):

    def test_example_of_the_interface(self):
        self.assertEqual(swings(PLATE, PLAN, 1)[:4], [((2, 1), False, True), ((1, 2), True, False),
                                                      ((-1, 2), False, True), ((-2, 1), True, False)])

    def check(self, plate, plan, at, right):
        """The swings are those that right(plan) tells at each border and between two."""
        borders = slow_borders(plate, plan, at)
        nexts = borders[1:] + borders[:1]
        told = [(low, right(with_deed(plan, at, low)), right(with_deed(plan, at, middle(low, high))))
                for low, high in zip(borders, nexts)]
        self.assertEqual(swings(plate=plate, plan=plan, at=at), told)
        return told

    def test_by_definition(self):
        chance = random.Random(140)
        found = {(True, True): 0, (True, False): 0, (False, True): 0, (False, False): 0}
        for plate in sample_plates(141, 4, 30, 12):
            told = SlowPlate(plate.corners, plate.centre)
            plan = list(quickest(plate))
            for one in (plan, random_course(chance, plate, 2), plan + random_course(chance, plate, 1),
                        random_course(chance, plate, 1) + plan):
                at = chance.randrange(len(one))
                if len(slow_borders(plate, one, at)) < 40:
                    for _, at_it, behind in self.check(plate, one, at, told.right):
                        found[(at_it, behind)] += 1
        self.assertGreater(min(found.values()), 30)

    def test_against_comes_right(self):
        chance = random.Random(142)
        many = 0
        for plate in sample_plates(143, 12, 30):
            plan = list(quickest(plate))
            for one in (plan, [(word, (d[0] * 3, d[1] * 3)) for word, d in plan], random_course(chance, plate, 4),
                        plan[:1] + random_course(chance, plate, 1) + plan[1:]):
                at = chance.randrange(len(one))
                if len(slow_borders(plate, one, at)) < 120:
                    many += len(self.check(plate, one, at, lambda other, plate=plate: comes_right(plate, other)))
        self.assertGreater(many, 1000)

    def test_nothing_changes_between_two_borders(self):
        chance = random.Random(144)
        for plate in sample_plates(145, 6, 14):
            plan = list(quickest(plate)) + random_course(chance, plate, 1)
            for at in range(len(plan)):
                told = swings(plate, plan, at)
                for (low, _, behind), (high, _, _) in chance.sample(list(zip(told, told[1:] + told[:1])), min(4, len(told))):
                    half = middle(low, high)
                    for d in (half, middle(low, half), middle(half, high), middle(low, middle(low, half))):
                        self.assertIs(comes_right(plate, with_deed(plan, at, d)), behind)

    def test_a_single_border(self):
        plate = Plate(*ONE_REST)
        # With one rest the push comes right however it turns.
        plan = [("push", (1, 0)), ("push", (3, 4))]
        for at in (0, 1):
            [(border, at_it, behind)] = swings(plate, plan, at)
            self.assertEqual([[border], at_it, behind], [slow_borders(plate, plan, at), True, True])
        told = self.check(plate, [("squeeze", (1, 0)), ("push", (3, 4))], 0, lambda one: comes_right(plate, one))
        self.assertEqual({flags for _, *flags in told for flags in flags}, {True})

    def test_one_deed(self):
        for plate in (PLATE, Plate(*ONE_REST), Plate(EIGHT)):
            for word in plate.words:
                self.assertEqual(swings(plate, [(word, (2, 7))], 0), [])

    def test_a_long_plan(self):
        chance = random.Random(146)
        plate = Plate(TRIANGLE, (2, 1))
        plan = []
        last = (1, 0)
        for _ in range(400):
            last = mul(last, random_direction(chance, 10 ** 9))
            plan.append((chance.choice(plate.words), last))
        plan[390:] = [(word, (d[0] * 7, d[1] * 7)) for word, d in plan[390:]]
        for at in (0, 200, 399):
            told = swings(plate, plan, at)
            self.assertEqual([border for border, _, _ in told], slow_ascending([border for border, _, _ in told]))
            for k in (0, len(told) // 2, len(told) - 1):
                border, at_it, behind = told[k]
                self.assertIs(comes_right(plate, with_deed(plan, at, border)), at_it)
                half = middle(border, told[(k + 1) % len(told)][0])
                self.assertIs(comes_right(plate, with_deed(plan, at, half)), behind)
        short = plan[100:104]
        for at in range(4):
            self.check(plate, short, at, lambda one: comes_right(plate, one))

    def test_all_numbers_of_turnings(self):
        for plate in (Plate(TRIANGLE, (2, 1)), PLATE, Plate(SQUARE), Plate(EIGHT), Plate(EIGHT, (0, 0))):
            plan = list(quickest(plate))
            self.check(plate, plan, len(plan) - 1, lambda one, plate=plate: comes_right(plate, one))

    def test_errors_in_order(self):
        self.plans_checked(lambda plate, plan: swings(plate, plan, None))
        for at in [-1, 2, HUGE, -HUGE] + NOT_INTEGERS:
            self.refused(BadPlan, -1, swings, PLATE, PLAN, at)
        for at in [0, -1, 1, None]:
            self.refused(BadPlan, -1, swings, PLATE, [], at)
            self.refused(BadWord, "push", swings, PLATE, [("push", (1, 0))], at)

    def test_nothing_is_changed(self):
        plan = list(PLAN)
        told = swings(PLATE, plan, 1)
        swings(PLATE, plan, 1).clear()
        self.assertEqual([swings(PLATE, tuple(plan), 1), plan], [told, PLAN])
