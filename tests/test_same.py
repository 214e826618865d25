"""Points 61 to 64, and points 2 to 7, 48 and 49 as far as they speak of two parts compared."""

import copy
import random

from jawturns.errors import BadKinds, BadRound, BadWord, TooMany
from jawturns.lots import all_rows
from jawturns.machines import Let
from jawturns.parts import Part
from jawturns.plans import Plan, does
from jawturns.rows import Rows
from jawturns.same import alike, is_same, parting, same_plans, same_rows, within
from jawturns.turnings import Turning
from tests.helpers import DEEP, HUGE, NOT_INTEGERS, Case
from tests.samples import EVEN, ODD, STILL, kinds_of, random_let, random_part, small_kinds
from tests.slow import SlowRows, SlowSame, come_to, judged_stuck, let_plans
from tests.test_lots import near_rows
from tests.test_shortest import spoilt_lists

ONE = Part(push=ODD)
TWO = Part(push=Turning(12, [(0, 1), (6, 9)]))
BOTH = Part(EVEN, ODD)
LET = Let(12, {"start": [("push", 0, "start"), ("push", 2, "start")]})
CALLS = [same_plans, within, parting, same_rows, lambda one, other, let: is_same(one, other, let, None)]


def samples():
    """Tuples (one, other, machine)."""
    found = []
    for seed in range(31, 39):
        for kinds, let in small_kinds(seed, 2, 2):
            found.extend([(kinds[0], kinds[1], let), (kinds[1], kinds[0], let), (kinds[0], kinds[0].copy(), let)])
    return found


def come_to_quickly(kinds, let):
    """All rows that are come to, however many."""
    rows = Rows(kinds, let)
    found = {row: True for _, _, row in rows.firsts()}
    waiting = list(found)
    while waiting:
        for _, _, goal in rows.onward(waiting.pop()):
            if goal not in found:
                found[goal] = True
                waiting.append(goal)
    return list(found)


def judged(one, other, deeds):
    """Whether the plan does for one and whether it does for the other."""
    return does(one, Plan(one.around, deeds)), does(other, Plan(one.around, deeds))


class Comparing(Case):

    def test_example_of_the_interface(self):
        self.assertEqual(parting(ONE, TWO, LET).deeds, (("push", 0), ("push", 2)))
        self.assertEqual(alike(ONE, ONE.turned(5)), 5)

    def test_against_all_plans(self):
        found = {None: 0, 1: 0, 2: 0, 3: 0}
        for one, other, let in samples():
            told = parting(one, other, let)
            self.assertIs(same_plans(one, other, let), told is None)
            listed = [let_plans(let, length) for length in range(5)]
            parts = [deeds for plans in listed for deeds in plans if judged(one, other, deeds) in ((True, False), (False, True))]
            if told is not None and len(told) < 5:
                self.assertEqual([told.around, told.deeds], [one.around, parts[0]])
                self.assertIsNone(same_rows(one, other, let))
                found[max(1, min(3, len(told)))] += 1
            else:
                self.assertEqual(parts, [])
                found[None] += told is None
            outer = [deeds for plans in listed for deeds in plans if judged(one, other, deeds) == (True, False)]
            alone = any(len(row[2][0]) == 1 < len(row[2][1]) for row in come_to(SlowRows([one, other], let)))
            self.assertIs(within(one, other, let), not alone and (one.period != 1 or other.period == 1))
            if outer:
                self.assertIs(within(one, other, let), False)
        self.assertGreater(min(found.values()), 5)

    def test_within_both_ways_is_the_same(self):
        halves = 0
        for one, other, let in samples():
            both = within(one, other, let) and within(other, one, let)
            self.assertIs(same_plans(one, other, let), both)
            halves += within(one, other, let) != within(other, one, let)
        self.assertGreater(halves, 5)

    def test_parts_turned_have_the_same_plans_without_a_first_turn(self):
        chance = random.Random(28)
        for around, words in ((12, ["push"]), (12, ["push", "squeeze"]), (360, ["squeeze"])):
            part = random_part(chance, around, words)
            let = random_let(chance, around, words, 3, 4)
            for c in (0, 1, 7, -5):
                # Turned with the part, a plan does the same; a plan that does, does whatever turn is added.
                self.assertIs(same_plans(part, part.turned(c), let), True)
                self.assertIsNone(parting(part, part.turned(c), let))
                self.assertEqual(same_rows(part, part.turned(c), let), all_rows([part, part.turned(c)], let))

    def test_periods_of_one(self):
        other = Part(push=Turning(2, [(0, 1)]))
        for let in (Let(2, {"start": []}), Let(2, {"start": [("push", 1, "start")]})):
            for one, two, outside in ((STILL, other, True), (other, STILL, False)):
                self.assertIs(same_plans(one, two, let), False)
                self.assertEqual(parting(one, two, let), Plan(2, []))
                self.assertIsNone(same_rows(one, two, let))
                self.assertIs(within(one, two, let), not outside)
                self.assertIs(is_same(one, two, let, all_rows([one, two], let)), False)
            self.assertIs(same_plans(STILL, STILL, let), True)
            self.assertEqual(same_rows(STILL, STILL, let), all_rows([STILL, STILL], let))
            self.assertIs(is_same(STILL, STILL, let, all_rows([STILL, STILL], let)), True)

    def test_a_plan_through_a_row_that_parts(self):
        # Behind one push the first part alone is right; both are behind two.
        one = Part(push=Turning(12, [(0, 2)]))
        two = Part(push=Turning(12, [(0, 2), (5, 8)]))
        let = Let(12, {"start": [("push", 0, "a")], "a": [("push", 3, "b")], "b": []})
        self.assertEqual(parting(one, two, let), Plan(12, [("push", 0)]))
        self.assertIs(within(one, two, let), False)
        self.assertIs(within(two, one, let), True)

    def test_unlike_words(self):
        squeezes = Let(12, {"start": [("push", 3, "start")]})
        self.assertIs(same_plans(BOTH, ONE, squeezes), True)
        self.assertEqual(same_rows(BOTH, ONE, Let(12, {"start": []})), [])
        self.assertIs(same_plans(Part(EVEN), ONE, Let(12, {"start": []})), True)
        self.assertIs(is_same(Part(EVEN), ONE, Let(12, {"start": []}), []), True)

    def test_large_ones(self):
        chance = random.Random(29)
        for _ in range(6):
            one, other = kinds_of(chance, 360, ["push"], 2)
            let = random_let(chance, 360, ["push"], 3, 5)
            plan = parting(one, other, let)
            if plan is None:
                self.assertTrue(is_same(one, other, let, same_rows(one, other, let)))
            else:
                self.assertIsNotNone(let.state_after(plan))
                self.assertNotEqual(does(one, plan), does(other, plan))
                for k in range(len(plan)):
                    self.assertEqual(does(one, plan[:k]), does(other, plan[:k]))

    def test_more_than_600_rows(self):
        # All subsets of eleven rests are come to, but of nine no more than 511.
        still = Part(push=Turning(12, [(k, k) for k in range(12)]))
        many, few = [Part(push=Turning(12, [(k, k) for k in range(count)])) for count in (11, 9)]
        let = Let(12, {"start": [("push", 1, "start"), ("push", -1, "start")]})
        self.assertEqual(len(all_rows([few, few], let)), 511)
        self.assertIs(same_plans(few, few, let), True)
        self.assertEqual(same_rows(few, few.turned(5), let), all_rows([few, few.turned(5)], let))
        self.assertEqual(parting(still, few, let), Plan(12, []))
        # All of them count, also where the empty plan parts the two already.
        for one, other in ((many, many), (many, few), (still, many), (many, still)):
            for call in CALLS[:4]:
                self.refused(TooMany, 600, call, one, other, let)
            self.assertIs(is_same(one, other, let, []), False)
        rows = sorted({row for row in come_to_quickly([many, many], let) if len(row[2][0]) > 1})
        self.assertGreater(len(rows), 600)
        self.assertIs(is_same(many, many, let, rows), False)
        ends = [("start", "push", ((k,), (k,))) for k in range(11)]
        self.assertIs(is_same(many, many, let, rows + ends), True)


class Lists(Case):

    def test_the_returned_one(self):
        found = 0
        for one, other, let in samples():
            told = same_rows(one, other, let)
            self.assertIs(told is None, parting(one, other, let) is not None)
            if told is not None:
                self.assertEqual(told, all_rows([one, other], let))
                self.assertEqual(told, come_to(SlowSame([one, other], let)))
                self.assertIs(is_same(one, other, let, told), True)
                found += len(told) > 1
        self.assertGreater(found, 10)

    def test_spoilt_ones(self):
        chance = random.Random(30)
        good = bad = 0
        for one, other, let in samples():
            slow = SlowSame([one, other], let)
            nodes = all_rows([one, other], let)
            slow.all_nodes = lambda rows=nodes: rows
            for thing in spoilt_lists(chance, same_rows(one, other, let) or nodes, nodes):
                told = judged_stuck(slow, thing)
                self.assertIs(is_same(one, other, let, thing), told, thing)
                good += told
                bad += not told
        self.assertGreater(good, 50)
        self.assertGreater(bad, 1000)

    def test_strange_things(self):
        let = Let(12, {"start": [("push", 0, "start")], "a": []})
        told = same_rows(ONE, TWO, let)
        self.assertEqual(told, [("start", "push", ((0, 1), (0, 1)))])
        self.assertIs(is_same(one=ONE, other=TWO, let=let, thing=told), True)
        for thing in NOT_INTEGERS + [0, HUGE, tuple(told), {told[0]: 0}]:
            self.assertIs(is_same(ONE, TWO, let, thing), False)
        for item in NOT_INTEGERS + near_rows(told[0]) + DEEP + told:
            self.assertIs(is_same(ONE, TWO, let, told + [item]), False)
        # Rows that no plan comes to may be items, but not ones that part.
        self.assertIs(is_same(ONE, TWO, let, told + [("a", "push", ((0,), (1,)))]), True)
        self.assertIs(is_same(ONE, TWO, let, told + [("a", "push", ((0,), (0, 1)))]), False)
        self.assertIs(is_same(ONE, TWO, let, told + [("a", "push", ((0, 1), (0,)))]), False)


class Checks(Case):

    def test_rounds_and_then_the_machine(self):
        for call in CALLS:
            self.refused(BadKinds, 1, call, ONE, STILL, Let(13, {"start": [("squeeze", 0, "start")]}))
            self.refused(BadKinds, 1, call, STILL, ONE, Let(13, {"start": [("squeeze", 0, "start")]}))
            self.refused(BadRound, 13, call, ONE, TWO, Let(13, {"start": [("squeeze", 0, "start")]}))
            self.refused(BadWord, "squeeze", call, BOTH, ONE, Let(12, {"start": [], "a": [("squeeze", 0, "a")]}))
            mixed = Let(12, {"start": [("squeeze", 0, "start"), ("push", 0, "start")]})
            self.refused(BadWord, "squeeze", call, ONE, Part(EVEN), mixed)
            self.refused(BadWord, "push", call, Part(EVEN), ONE, mixed)

    def test_nothing_is_changed(self):
        one, other = ONE.copy(), TWO.copy()
        first = [call(one, other, LET) for call in CALLS]
        self.assertEqual([call(one, other, LET) for call in CALLS], first)
        told = same_rows(one, one, LET)
        kept = copy.deepcopy(told)
        self.assertIs(is_same(one, one, LET, told), True)
        self.assertEqual(told, kept)
        told.clear()
        self.assertEqual(same_rows(one, one, LET), kept)
        self.assertEqual([one, other], [ONE, TWO])


class Alike(Case):

    def test_by_definition(self):
        chance = random.Random(31)
        none = 0
        for around, words in ((2, ["push"]), (6, ["push"]), (12, ["push"]), (12, ["squeeze"]), (12, ["push", "squeeze"]),
                              (60, ["push", "squeeze"])):
            for _ in range(5):
                one, two = random_part(chance, around, words), random_part(chance, around, words)
                for other in [two, one.copy(), one.turned(chance.randrange(around)), one.mirrored()]:
                    told = None
                    for c in range(around - 1, -1, -1):
                        turned = one.turned(c)
                        if turned.words == other.words and all(turned[word] == other[word] for word in other.words):
                            told = c
                    self.assertEqual(alike(one=one, other=other), told)
                    none += told is None
        self.assertGreater(none, 10)

    def test_the_least_of_several(self):
        part = Part(EVEN)
        self.assertEqual([alike(part, part.turned(c)) for c in range(-1, 8)], [5, 0, 1, 2, 3, 4, 5, 0, 1])
        whole = Part(push=Turning(360, [(k, k) for k in range(0, 360, 30)]))
        self.assertEqual([alike(whole, whole.turned(c)) for c in (0, 29, 30, 359)], [0, 29, 0, 29])
        one = Part(push=Turning(360, [(0, 0)]))
        self.assertEqual(alike(one, one.turned(359)), 359)

    def test_unlike_rounds_and_words(self):
        for one, other in ((ONE, STILL), (STILL, ONE), (BOTH, ONE), (ONE, BOTH), (Part(EVEN), ONE), (ONE, Part(EVEN)),
                           (Part(EVEN), Part(push=EVEN))):
            self.assertIsNone(alike(one, other))

    def test_both_words_turn_together(self):
        self.assertEqual(alike(BOTH, BOTH.turned(3)), 3)
        self.assertIsNone(alike(BOTH, Part(EVEN, ODD.turned(3))))

    def test_widths_do_not_matter(self):
        self.assertEqual(alike(Part(EVEN, widths=[1] * 12), Part(EVEN, widths=[2] * 12).turned(4)), 4)
        self.assertEqual(alike(Part(EVEN, widths=[1, 2, 3, 4, 5, 6] * 2).turned(1), Part(EVEN)), 5)
