"""Points 20 to 27, and points 2 to 7 as far as they speak of plans."""

import random
import unittest

from jawturns.errors import BadPlan, BadRound, BadStanding, BadTurn, BadWord
from jawturns.parts import Part
from jawturns.plans import Plan, after, carried, counts, does, ends, joint
from jawturns.turnings import Turning
from tests.helpers import (FAR, HUGE, NOT_DEEDS, NOT_INTEGERS, NOT_ROWS, Case, sample_evens, sample_rows,
                           slow_lifted, table)

EVEN = Turning(12, [(0, 1), (4, 5), (6, 7), (10, 11)])
ODD = Turning(12, [(0, 2), (5, 8)])
DEEDS = [("squeeze", 0), ("push", 4), ("push", -1), ("squeeze", 30)]
STILL = Turning(2, [(0, 0), (1, 1)])


def sample_parts():
    """Parts with one turning or with two."""
    found = [Part(push=Turning(around, rows)) for around, rows in sample_rows()]
    for even in sample_evens():
        found.append(Part(even))
        found.extend([Part(even, Turning(around, rows)) for around, rows in sample_rows()
                      if around == even.around])
    return found


def sample_plans(part):
    """Plans of several lengths for the part, the empty one too, always the same ones."""
    chance = random.Random(part.around)
    found = [Plan(part.around, [])]
    for length in (1, 1, 2, 3, 5, 9):
        found.append(Plan(part.around, [(chance.choice(part.words), chance.randrange(part.around))
                                        for _ in range(length)]))
    return found


def slow_carrier(part, deeds):
    """carried as point 23 tells it, as a function of the integer."""
    lifts = {word: table(part.around, part[word].rows) for word in part.words}

    def carry(x):
        for word, turn in deeds:
            x = lifts[word](x - turn) + turn
        return x

    return carry


class Making(Case):

    def test_turns_are_taken_modulo_the_round(self):
        plan = Plan(12, DEEDS)
        self.assertEqual(plan.around, 12)
        self.assertEqual(plan.deeds, (("squeeze", 0), ("push", 4), ("push", 11), ("squeeze", 6)))
        self.assertIs(type(plan.deeds), tuple)
        self.assertEqual({type(deed) for deed in plan.deeds}, {tuple})
        for around in (2, 3, 12, 359, 360):
            for turn in FAR:
                self.assertEqual(Plan(around, (("push", turn),)).deeds, (("push", turn % around),))

    def test_rows_of_both_kinds_and_names(self):
        self.assertEqual(Plan(12, DEEDS), Plan(deeds=tuple(DEEDS), around=12))
        self.assertEqual([Plan(12, []).deeds, Plan(12, ()).deeds], [(), ()])

    def test_rounds(self):
        for around in (2, 360):
            self.assertEqual(Plan(around, []).around, around)
        for around in [1, 0, -1, 361, HUGE, -HUGE] + NOT_INTEGERS:
            for deeds in ([], None, ["bad"], [("push", 0)]):
                self.refused(BadRound, around, Plan, around, deeds)

    def test_strange_rows(self):
        for deeds in NOT_ROWS:
            self.refused(BadPlan, -1, Plan, 12, deeds)

    def test_number_of_deeds(self):
        self.assertEqual(len(Plan(12, [("push", 1)] * 400)), 400)
        for deeds in ([("push", 1)] * 401, (("push", 1),) * 1000, [None] * 401):
            self.refused(BadPlan, -1, Plan, 12, deeds)

    def test_strange_deeds(self):
        for deed in NOT_DEEDS:
            self.refused(BadPlan, 0, Plan, 12, [deed])
            self.refused(BadPlan, 1, Plan, 12, [("push", 1), deed, None])
            self.refused(BadPlan, 399, Plan, 12, (("squeeze", 1),) * 399 + (deed,))

    def test_it_copies_its_deeds(self):
        deeds = list(DEEDS)
        plan = Plan(12, deeds)
        deeds.append(("push", 0))
        deeds[0] = None
        self.assertEqual(plan, Plan(12, DEEDS))
        self.assertEqual(len(plan), 4)

    def test_equality(self):
        self.assertTrue(Plan(12, DEEDS) == Plan(12, tuple(DEEDS)))
        self.assertFalse(Plan(12, DEEDS) != Plan(12, DEEDS))
        self.assertEqual(Plan(12, [("push", 13)]), Plan(12, [("push", HUGE - HUGE % 12 + 1)]))
        unlike = [Plan(12, []), Plan(13, []), Plan(12, [("push", 0)]), Plan(12, [("squeeze", 0)]),
                  Plan(12, [("push", 1)]), Plan(13, [("push", 0)]), Plan(12, [("push", 0)] * 2)]
        for at, one in enumerate(unlike):
            for other in unlike[:at]:
                self.assertTrue(one != other)
                self.assertFalse(one == other)


class Reading(Case):

    def test_length_and_iteration(self):
        plan = Plan(12, DEEDS)
        self.assertEqual([len(plan), len(Plan(12, []))], [4, 0])
        self.assertEqual(list(plan), list(plan.deeds))
        self.assertEqual([list(plan), list(plan)], [list(plan.deeds)] * 2)
        self.assertEqual(list(Plan(12, [])), [])

    def test_indexes(self):
        plan = Plan(12, DEEDS)
        for k in range(-4, 4):
            self.assertEqual(plan[k], plan.deeds[k])
            self.assertIs(type(plan[k]), tuple)
        for k in [4, -5, 400, HUGE, -HUGE] + NOT_INTEGERS:
            self.refused(BadPlan, k, lambda at: plan[at], k)
        for k in (0, -1, 1, False, True):
            self.refused(BadPlan, k, lambda at: Plan(12, [])[at], k)

    def test_slices(self):
        plan = Plan(12, DEEDS)
        bounds = [None, 0, 1, 2, 4, 5, 99, -1, -2, -4, -5, HUGE, -HUGE]
        for low in bounds:
            for high in bounds:
                self.assertIsInstance(plan[low:high], Plan)
                self.assertEqual(plan[low:high].around, 12)
                self.assertEqual(plan[low:high].deeds, plan.deeds[low:high])
        self.assertEqual(plan[::2].deeds, plan.deeds[::2])
        self.assertEqual(plan[::-1].deeds, plan.deeds[::-1])
        self.assertEqual(Plan(12, [])[1:].deeds, ())
        whole = Plan(12, [("push", k) for k in range(400)])
        self.assertEqual([whole[:], len(whole[-400:400])], [whole, 400])

    def test_it_never_changes(self):
        plan = Plan(12, DEEDS)
        kept = plan
        with self.assertRaises(TypeError):
            plan[0] = ("push", 0)
        kept += Plan(12, DEEDS)
        kept *= 2
        kept >>= 5
        self.assertEqual(len(kept), 16)
        self.assertEqual(plan, Plan(12, DEEDS))


class Reckoning(Case):

    def test_sums(self):
        one = Plan(12, DEEDS)
        two = Plan(12, [("push", 3)])
        self.assertEqual((one + two).deeds, one.deeds + two.deeds)
        self.assertEqual((two + one).deeds, two.deeds + one.deeds)
        self.assertEqual(one + Plan(12, []), one)
        self.assertEqual(Plan(12, []) + one, one)
        self.assertEqual([one, two], [Plan(12, DEEDS), Plan(12, [("push", 3)])])

    def test_sums_that_are_refused(self):
        many = Plan(12, [("push", 3)] * 200)
        self.assertEqual(len(many + many), 400)
        self.refused(BadPlan, -1, lambda one, two: one + two, many, many + Plan(12, [("push", 0)]))
        self.refused(BadPlan, -1, lambda one, two: one + two, many + many, Plan(12, [("push", 0)]))
        self.assertEqual(many + many + Plan(12, []), many + many)
        for other in (Plan(13, []), Plan(13, [("push", 3)] * 400)):
            self.refused(BadRound, 13, lambda one, two: one + two, many + many, other)
            self.refused(BadRound, 12, lambda one, two: two + one, many, other)

    def test_products(self):
        plan = Plan(12, DEEDS)
        for k in (0, 1, 2, 3, 100):
            self.assertEqual((plan * k).deeds, plan.deeds * k)
            self.assertEqual((k * plan).deeds, plan.deeds * k)
            self.assertEqual((k * plan).around, 12)
        self.assertEqual(plan, Plan(12, DEEDS))
        for k in (0, 1, 400, 401, HUGE, 10 ** 5000):
            self.assertEqual(Plan(12, []) * k, Plan(12, []))
            self.assertEqual(k * Plan(12, []), Plan(12, []))
        self.assertEqual(len(Plan(12, [("push", 1)]) * 400), 400)

    def test_products_that_are_refused(self):
        plan = Plan(12, DEEDS)
        for k in [101, 400, -1, -101, HUGE, -HUGE] + NOT_INTEGERS:
            self.refused(BadPlan, -1, lambda many: plan * many, k)
            self.refused(BadPlan, -1, lambda many: many * plan, k)
        for k in [-1, -HUGE] + NOT_INTEGERS:
            self.refused(BadPlan, -1, lambda many: Plan(12, []) * many, k)
            self.refused(BadPlan, -1, lambda many: many * Plan(12, []), k)
        self.refused(BadPlan, -1, lambda many: Plan(12, [("push", 1)]) * many, 401)
        self.assertEqual(plan, Plan(12, DEEDS))

    def test_shifts(self):
        plan = Plan(12, DEEDS)
        for c in FAR:
            self.assertIsInstance(plan >> c, Plan)
            self.assertEqual((plan >> c).around, 12)
            self.assertEqual((plan >> c).deeds, tuple((word, (turn + c) % 12) for word, turn in DEEDS))
        self.assertEqual(Plan(12, []) >> 5, Plan(12, []))
        for c in NOT_INTEGERS:
            self.refused(BadTurn, c, lambda turn: plan >> turn, c)
            self.refused(BadTurn, c, lambda turn: Plan(12, []) >> turn, c)
        self.assertEqual(plan, Plan(12, DEEDS))


class Checks(Case):

    CALLS = (lambda part, plan: carried(part, plan, 0), after, counts, does, ends, joint)

    def test_the_checks_of_a_plan(self):
        push, squeeze = Part(push=ODD), Part(EVEN)
        for call in self.CALLS:
            self.refused(BadRound, 13, call, push, Plan(13, []))
            self.refused(BadRound, 13, call, push, Plan(13, [("squeeze", 0)]))
            self.refused(BadWord, "squeeze", call, push, Plan(12, [("push", 0), ("squeeze", 0)]))
            self.refused(BadWord, "push", call, squeeze, Plan(12, [("squeeze", 0), ("push", 0)]))
        self.assertEqual([push, squeeze], [Part(push=ODD), Part(EVEN)])

    def test_they_come_before_the_checks_of_standings(self):
        part = Part(push=ODD)
        for value in (None, True, "", [99], HUGE):
            self.refused(BadRound, 13, carried, part, Plan(13, []), value)
            self.refused(BadWord, "squeeze", carried, part, Plan(12, [("squeeze", 0)]), value)
            self.refused(BadRound, 13, after, part, Plan(13, []), value)
            self.refused(BadWord, "squeeze", after, part, Plan(12, [("squeeze", 0)]), value)

    def test_nothing_is_changed(self):
        part = Part(EVEN, ODD, [3] * 12)
        plan = Plan(12, DEEDS)
        standings = [5, 3, 3]
        first = [after(part, plan, standings), after(part, plan), counts(part, plan), does(part, plan),
                 ends(part, plan), joint(part, plan), carried(part, plan, 7)]
        after(part, plan).append(99)
        counts(part, plan).clear()
        again = [after(part, plan, standings), after(part, plan), counts(part, plan), does(part, plan),
                 ends(part, plan), joint(part, plan), carried(part, plan, 7)]
        self.assertEqual(first, again)
        self.assertEqual([part, plan, standings], [Part(EVEN, ODD, [3] * 12), Plan(12, DEEDS), [5, 3, 3]])
        self.assertIsNot(after(part, Plan(12, []), standings), standings)


class Carrying(Case):

    def test_example_of_the_interface(self):
        part = Part(Turning(12, [(0, 1), (4, 5), (6, 7), (10, 11)]))
        plan = Plan(12, [("squeeze", 0), ("squeeze", 4)])
        self.assertEqual(
            [after(part, plan), counts(part, plan), does(part, plan), ends(part, plan), joint(part, plan),
             carried(part, plan, 0)],
            [[5, 11], [6, 2, 1], True, 5, 4, -1])

    def test_carried_deed_by_deed(self):
        part = Part(EVEN, ODD)
        plan = Plan(12, DEEDS)
        for x in list(range(-40, 40)) + FAR:
            place = x
            for word, turn in plan.deeds:
                place = slow_lifted(12, part[word].rows, place - turn) + turn
            self.assertEqual(carried(part, plan, x), place)

    def test_carried_by_definition(self):
        for part in sample_parts():
            for plan in sample_plans(part):
                slow = slow_carrier(part, plan.deeds)
                for x in FAR:
                    self.assertEqual(carried(part, plan, x), slow(x))
        self.assertEqual(carried(Part(push=ODD), Plan(12, []), -HUGE), -HUGE)

    def test_carried_wants_an_integer(self):
        part = Part(EVEN, ODD)
        for x in NOT_INTEGERS:
            self.refused(BadStanding, x, carried, part, Plan(12, []), x)
            self.refused(BadStanding, x, carried, part, Plan(12, DEEDS), x)

    def test_after(self):
        for part in sample_parts():
            chance = random.Random(part.around + 1)
            for plan in sample_plans(part):
                slow = slow_carrier(part, plan.deeds)
                whole = sorted({slow(x) % part.around for x in range(part.around)})
                self.assertEqual(after(part, plan), whole)
                self.assertEqual(after(part, plan, None), whole)
                some = [chance.randrange(part.around) for _ in range(5)]
                some.append(some[0])
                goal = sorted({slow(x) % part.around for x in some})
                self.assertEqual(after(part, plan, some), goal)
                self.assertEqual(after(part, plan, standings=tuple(some)), goal)
                self.assertEqual([after(part, plan, []), after(part, plan, ())], [[], []])

    def test_after_the_empty_plan(self):
        part = Part(push=ODD)
        self.assertEqual(after(part, Plan(12, [])), list(range(12)))
        self.assertEqual(after(part, Plan(12, []), [5, 0, 11, 5]), [0, 5, 11])

    def test_after_wants_a_row_of_places(self):
        part = Part(EVEN, ODD)
        for plan in (Plan(12, []), Plan(12, DEEDS)):
            for standings in NOT_ROWS:
                if standings is not None:
                    self.refused(BadStanding, -1, after, part, plan, standings)
            for value in [-1, 12, HUGE, -HUGE] + NOT_INTEGERS:
                self.refused(BadStanding, value, after, part, plan, [value])
                self.refused(BadStanding, value, after, part, plan, (0, 11, value, -5))


class Coming(Case):

    def test_by_definition(self):
        right = 0
        for part in sample_parts():
            period = part.period
            for plan in sample_plans(part):
                left = [{x % period for x in after(part, plan[:many])} for many in range(len(plan) + 1)]
                self.assertEqual(counts(part, plan), [len(standings) for standings in left])
                self.assertEqual(counts(part, plan)[0], period)
                one = len(left[-1]) == 1
                right += one
                self.assertIs(does(part, plan), one)
                self.assertEqual(ends(part, plan), min(left[-1]) if one else None)
                slow = slow_carrier(part, plan.deeds)
                cuts = [x for x in range(period) if slow(x) == slow(x + period - 1)]
                self.assertEqual(joint(part, plan), cuts[0] if cuts else None)
                self.assertEqual(bool(cuts), one)
        self.assertGreater(right, 100)

    def test_the_empty_plan(self):
        self.assertEqual(counts(Part(STILL), Plan(2, [])), [1])
        self.assertIs(does(Part(STILL), Plan(2, [])), True)
        self.assertEqual([ends(Part(STILL), Plan(2, [])), joint(Part(STILL), Plan(2, []))], [0, 0])
        for part in (Part(EVEN), Part(push=ODD)):
            plan = Plan(12, [])
            self.assertEqual(counts(part, plan), [part.period])
            self.assertIs(does(part, plan), False)
            self.assertEqual([ends(part, plan), joint(part, plan)], [None, None])

    def test_one_pair_comes_right_at_once(self):
        for around in (2, 12, 360):
            for begin, rest in ((0, 0), (1, 0), (0, around - 1), (around - 1, around // 2)):
                part = Part(push=Turning(around, [(begin, rest)]))
                for turn in (0, 1, around - 1):
                    plan = Plan(around, [("push", turn)])
                    self.assertEqual(counts(part, plan), [around, 1])
                    self.assertEqual(ends(part, plan), (rest + turn) % around)
                    self.assertEqual(joint(part, plan), (begin + turn) % around)

    def test_a_joint_at_the_edges_of_the_period(self):
        part = Part(push=Turning(12, [(0, 2), (5, 8)]))
        plan = Plan(12, [("push", 0), ("push", 3)])
        self.assertEqual([joint(part, plan), ends(part, plan)], [5, 11])
        for c in range(-12, 12):
            moved = part.turned(c)
            self.assertEqual([joint(part, plan >> c), ends(part, plan >> c)], [(5 + c) % 12, (11 + c) % 12])
            self.assertEqual([joint(moved, plan), ends(moved, plan)], [(5 + c) % 12, (11 + c) % 12])

    def test_all_of_400_deeds(self):
        part = Part(push=Turning(360, [(x * 30, x * 30 + 1) for x in range(11)] + [(330, 340)]))
        plan = Plan(360, [("push", k * 31) for k in range(400)])
        slow = slow_carrier(part, plan.deeds)
        self.assertEqual(len(counts(part, plan)), 401)
        self.assertEqual(counts(part, plan)[-1], len({slow(x) % 360 for x in range(360)}))
        self.assertEqual(carried(part, plan, -HUGE), slow(-HUGE))


if __name__ == "__main__":
    unittest.main()
