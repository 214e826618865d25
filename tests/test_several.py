"""Points 53 to 60, and points 2 to 7 and 48 and 49 as far as they speak of several kinds."""

import copy
import random

from jawturns.errors import BadRound, BadWord, NoPlan, TooMany
from jawturns.lots import all_rows
from jawturns.machines import Let
from jawturns.parts import Part
from jawturns.plans import Plan, does, ends
from jawturns.several import (does_for, is_paper_for, is_stuck_for, least_for, paper_for, shortest_for,
                              stuck_for)
from jawturns.turnings import Turning
from tests.helpers import DEEP, HUGE, NOT_INTEGERS
from tests.samples import (EVEN, ODD, STILL, hole_machine, hole_parts, kinds_of, many_rows, random_let,
                           small_kinds)
from tests.slow import SlowSeveral, come_to, judged_paper, judged_stuck, let_plans, slow_paper
from tests.test_lots import KindsCase, near_rows
from tests.test_shortest import spoilt_lists, spoilt_papers

ONE = Part(push=ODD)
TWO = Part(push=Turning(12, [(0, 1), (6, 9)]))
BOTH = Part(EVEN, ODD)
LET = Let(12, {"start": [("push", 0, "start"), ("push", 3, "start")]})
STUCK_LET = Let(12, {"start": [("push", 0, "start")]})
ONES = Part(push=Turning(2, [(0, 0), (1, 1)]))
CALLS = [lambda parts, let: least_for(parts, let), lambda parts, let: shortest_for(parts, let, apart=True),
         lambda parts, let: paper_for(parts, let), lambda parts, let: stuck_for(parts, let, apart=True),
         lambda parts, let: is_paper_for(parts, let, None, None),
         lambda parts, let: is_stuck_for(parts, let, None, apart=True)]


def slow_does(kinds, deeds, unlike):
    """Point 57 by all standings that the kinds may end at."""
    around = kinds[0].around
    plan = Plan(around, deeds)
    if not all(does(part, plan) for part in kinds):
        return False
    places = [{(ends(part, plan) + k * part.period) % around for k in range(around)} for part in kinds]
    return not unlike or not any(one & other for at, one in enumerate(places) for other in places[:at])


def samples():
    """Tuples (kinds, machine, flag) with two and three kinds."""
    return [(kinds, let, unlike) for kinds, let in small_kinds(7, 2) + small_kinds(17, 2) for unlike in (False, True)]


class Doing(KindsCase):

    def test_by_definition(self):
        found = {(False, False): 0, (False, True): 0, (True, False): 0, (True, True): 0}
        chance = random.Random(24)
        for kinds, let in small_kinds(8, 2):
            for length in range(4):
                told = let_plans(let, length)
                for deeds in chance.sample(told, min(10, len(told))):
                    plan = Plan(kinds[0].around, deeds)
                    for unlike in (False, True):
                        right = slow_does(kinds, deeds, unlike)
                        self.assertIs(does_for(kinds, plan, apart=unlike), right)
                        found[(unlike, right)] += 1
                    self.assertIs(does_for(parts=tuple(kinds), plan=plan), slow_does(kinds, deeds, False))
        self.assertGreater(min(found.values()), 20)

    def test_ends_that_meet_far_around(self):
        # One kind ends at 1 and 7, the other one at 3 and 9, or turned on at 1 and 7 again.
        half = Part(push=Turning(12, [(0, 1), (6, 7)]))
        plan = Plan(12, [("push", 0)])
        for c in range(12):
            self.assertIs(does_for([half, half.turned(c)], plan, apart=True), c % 6 != 0 and does(half.turned(c), plan))
        third = Part(push=Turning(12, [(0, 0), (4, 4), (8, 8)]))
        # Periods 6 and 4: ends are alike if they are equal modulo 2.
        for c in range(12):
            self.assertIs(does_for([half, third.turned(c)], plan, apart=True), c % 2 == 0)
            self.assertIs(does_for([half, third.turned(c)], plan), True)

    def test_the_empty_plan(self):
        empty = Plan(2, [])
        self.assertIs(does_for([ONES, ONES], empty), True)
        self.assertIs(does_for([ONES, ONES, STILL], empty), True)
        self.assertIs(does_for([ONES, ONES], empty, apart=True), False)
        self.assertIs(does_for([ONES, Part(push=Turning(2, [(0, 1)]))], empty), False)
        self.assertIs(does_for([ONE, TWO], Plan(12, [])), False)

    def test_checks(self):
        self.kinds_first(lambda parts, let: does_for(parts, Plan(14, [("squeeze", 0)])), 2, 3)
        self.refused(BadRound, 13, does_for, [ONE, TWO], Plan(13, [("squeeze", 0)]))
        self.refused(BadWord, "squeeze", does_for, [BOTH, ONE], Plan(12, [("push", 0), ("squeeze", 0)]))
        self.refused(BadWord, "push", does_for, [Part(EVEN), ONE], Plan(12, [("squeeze", 0), ("push", 0)]))
        self.refused(BadWord, "squeeze", does_for, [ONE, Part(EVEN)], Plan(12, [("push", 0), ("squeeze", 0)]))
        # Also where the first kind alone shows that the plan does not do.
        self.refused(BadWord, "push", does_for, [ONE, Part(EVEN)], Plan(12, [("push", 0)]))
        with self.assertRaises(TypeError):
            does_for([ONE, TWO], Plan(12, []), True)


class Least(KindsCase):

    def test_example_of_the_interface(self):
        self.assertEqual(shortest_for([ONE, TWO], LET, apart=True).deeds, (("push", 0), ("push", 3)))
        plan = shortest_for([ONE, TWO], LET, apart=True)
        self.assertEqual([ends(ONE, plan), ends(TWO, plan)], [11, 0])

    def test_against_all_plans(self):
        found = {None: 0, 1: 0, 2: 0, 3: 0}
        for kinds, let, unlike in samples():
            told = None
            for length in range(5):
                right = [deeds for deeds in let_plans(let, length) if slow_does(kinds, deeds, unlike)]
                if right:
                    told = length
                    break
            if told is not None:
                self.assertEqual(least_for(kinds, let, apart=unlike), told)
                plan = shortest_for(kinds, let, apart=unlike)
                self.assertEqual([plan.around, plan.deeds], [kinds[0].around, right[0]])
                self.assertIsNone(stuck_for(kinds, let, apart=unlike))
                found[max(1, min(told, 3))] += 1
            elif least_for(kinds, let, apart=unlike) is None:
                self.fails(NoPlan, shortest_for, kinds, let, apart=unlike)
                self.fails(NoPlan, paper_for, kinds, let, apart=unlike)
                self.assertEqual(stuck_for(kinds, let, apart=unlike), all_rows(kinds, let))
                found[None] += 1
            else:
                self.assertGreater(least_for(kinds, let, apart=unlike), 4)
        self.assertGreater(min(found.values()), 5)

    def test_a_plan_through_an_end(self):
        # Behind one push the kinds end apart, behind the next one together again.
        one, two = Part(push=Turning(12, [(0, 1)])), Part(push=Turning(12, [(0, 4)]))
        let = Let(12, {"start": [("push", 5, "start")]})
        self.assertEqual(shortest_for([one, two], let, apart=True), Plan(12, [("push", 5)]))
        self.assertEqual(paper_for([one, two], let, apart=True), {})
        self.assertEqual(paper_for([one, one], STUCK_LET), {})
        self.fails(NoPlan, paper_for, [one, one], STUCK_LET, apart=True)

    def test_period_one(self):
        for let in (Let(2, {"start": []}), Let(2, {"start": [("push", 1, "start")]})):
            for kinds in ([ONES, STILL], (STILL, ONES, STILL)):
                self.assertEqual([least_for(kinds, let), shortest_for(kinds, let), paper_for(kinds, let),
                                  stuck_for(kinds, let)], [0, Plan(2, []), {}, None])
                self.assertIs(is_paper_for(kinds, let, 0, {}), True)
                self.assertIs(is_paper_for(kinds, let, 1, {}), False)
                self.assertIs(is_stuck_for(kinds, let, []), False)
                # Kinds of period 1 are never apart.
                self.assertIsNone(least_for(kinds, let, apart=True))
                self.assertTrue(is_stuck_for(kinds, let, stuck_for(kinds, let, apart=True), apart=True))

    def test_400_deeds_and_one_more(self):
        kinds = hole_parts(397)
        plan = shortest_for(kinds, hole_machine())
        self.assertEqual([len(plan), least_for(kinds, hole_machine())], [400, 400])
        self.assertTrue(does_for(kinds, plan))
        more = hole_machine(ahead=True)
        self.refused(TooMany, 400, shortest_for, kinds, more)
        self.assertEqual([least_for(kinds, more), stuck_for(kinds, more)], [401, None])
        told = paper_for(kinds, more)
        self.assertIs(is_paper_for(kinds, more, 401, told), True)
        self.assertIs(is_paper_for(kinds, more, 402, told), False)

    def test_600_rows_and_one_more(self):
        parts, let = many_rows(600)
        self.assertIsNone(least_for(parts, let))
        self.assertEqual(len(stuck_for(parts, let)), 600)
        self.assertIs(is_stuck_for(parts, let, stuck_for(parts, let)), True)
        rows = stuck_for(parts, let)
        parts, let = many_rows(601)
        for call in CALLS[:4]:
            self.refused(TooMany, 600, call, parts, let)
        # The judges never raise it.
        self.assertIs(is_stuck_for(parts, let, rows), False)
        behind = [row[2] for row in rows if row[0] == "odd" and min(len(left) for left in row[2]) < 6]
        self.assertIs(is_stuck_for(parts, let, rows + [("yonder", "push", behind[0])]), True)
        self.assertIs(is_paper_for(parts, let, 2, {row: 1 for row in rows}), False)

    def test_all_rows_count_also_where_two_deeds_do(self):
        # One more rule brings all rests of all kinds together, and so leads to one more row.
        together = [("push", 180, "odd")]
        parts, let = many_rows(599, together)
        self.assertEqual(len(all_rows(parts, let)), 600)
        self.assertEqual(shortest_for(parts, let), Plan(360, [("push", 1), ("push", 181)]))
        self.assertIs(is_paper_for(parts, let, 2, paper_for(parts, let)), True)
        parts, let = many_rows(600, together)
        for call in CALLS[:4]:
            self.refused(TooMany, 600, call, parts, let)

    def test_rows_behind_an_end_count(self):
        # Apart the kinds end at once; behind that they come to further rows.
        one, two = Part(push=Turning(12, [(0, 1)])), Part(push=Turning(12, [(0, 4)]))
        let = Let(12, {"start": [("push", 0, "a")], "a": [("push", 0, "b")], "b": []})
        self.assertEqual([least_for([one, two], let, apart=True), len(all_rows([one, two], let))], [1, 2])
        self.assertEqual(paper_for([one, two], let, apart=True), {})

    def test_errors_in_order(self):
        for call in CALLS:
            self.kinds_first(call, 2, 3)
            self.machine_next(call)
        with self.assertRaises(TypeError):
            least_for([ONE, TWO], LET, True)

    def test_nothing_is_changed(self):
        parts = [ONE.copy(), TWO.copy()]
        calls = (least_for, shortest_for, paper_for, stuck_for)
        first = [call(parts, LET, apart=True) for call in calls]
        paper_for(parts, LET).clear()
        told = paper_for(parts, LET)
        kept = copy.deepcopy(told)
        is_paper_for(parts, LET, 2, told)
        is_stuck_for(parts, LET, list(told))
        self.assertEqual([call(parts, LET, apart=True) for call in calls], first)
        self.assertEqual([parts, told], [[ONE, TWO], kept])


class Papers(KindsCase):

    def test_the_returned_one(self):
        found = 0
        for kinds, let, unlike in samples():
            slow = SlowSeveral(kinds, let, unlike)
            least = least_for(kinds, let, apart=unlike)
            if least is None:
                continue
            told = paper_for(kinds, let, apart=unlike)
            self.assertEqual(told, slow_paper(slow, least))
            self.assertEqual(list(told), sorted(told))
            self.assertIs(is_paper_for(kinds, let, least, told, apart=unlike), True)
            self.assertIs(is_paper_for(kinds, let, least + 1, told, apart=unlike), False)
            found += len(told) > 1
        self.assertGreater(found, 10)

    def test_spoilt_ones(self):
        chance = random.Random(25)
        good = bad = 0
        for kinds, let, unlike in samples():
            least = least_for(kinds, let, apart=unlike)
            if least is None:
                continue
            slow = SlowSeveral(kinds, let, unlike)
            nodes = sorted(set(all_rows(kinds, let)))
            slow.all_nodes = lambda rows=nodes: rows
            for thing in spoilt_papers(chance, paper_for(kinds, let, apart=unlike), nodes):
                for length in (least, least - 1, least + 1):
                    told = judged_paper(slow, length, thing)
                    self.assertIs(is_paper_for(kinds, let, length, thing, apart=unlike), told, (thing, length))
                    good += told
                    bad += not told
        self.assertGreater(good, 200)
        self.assertGreater(bad, 2000)

    def test_keys_that_are_nearly_rows(self):
        told = paper_for([ONE, TWO], LET)
        [row] = [key for key in told if key == ("start", "push", ((0, 1), (0, 1)))]
        for key in near_rows(row):
            try:
                thing = {**told, key: 0}
            except TypeError:
                continue
            self.assertIs(is_paper_for([ONE, TWO], LET, 2, thing), False)
        self.assertIs(is_paper_for([ONE, TWO], LET, 2, {**told, ("start", "push", ((0,), (0,))): 0}), False)

    def test_rows_that_are_not_come_to(self):
        let = Let(12, {"start": [("push", 0, "start"), ("push", 3, "start")], "a": []})
        told = paper_for([ONE, TWO], let)
        self.assertIs(is_paper_for([ONE, TWO], let, 2, {**told, ("a", "push", ((0,), (0, 1))): HUGE}), True)
        self.assertIs(is_paper_for([ONE, TWO], let, 2, {**told, ("a", "push", ((0,), (0,))): 0}), False)
        # With `apart` that row is an end only if the kinds stand unlike: at 2 and 1 they do.
        self.assertIs(is_paper_for([ONE, TWO], let, 2, {**told, ("a", "push", ((0,), (0,))): 0}, apart=True), False)
        self.assertIs(is_paper_for([ONE, ONE], let, 2, {("start", "push", ((0, 1), (0, 1))): 1}, apart=True), False)

    def test_lengths_and_strange_things(self):
        told = paper_for([ONE, TWO], LET)
        for length in [-1, 0, 3, HUGE, -HUGE] + NOT_INTEGERS + [2.0, "2"]:
            self.assertIs(is_paper_for([ONE, TWO], LET, length, told), False)
        self.assertIs(is_paper_for(parts=[ONE, TWO], let=LET, length=0, thing={}), True)
        self.assertIs(is_paper_for([ONE, TWO], LET, False, {}), False)
        for thing in NOT_INTEGERS + [0, list(told), tuple(told.items())]:
            self.assertIs(is_paper_for([ONE, TWO], LET, 2, thing), False)
        for number in NOT_INTEGERS + [-1, 0, 3]:
            self.assertIs(is_paper_for([ONE, TWO], LET, 2, {key: number for key in told}), False)
        for length in (1, 2, HUGE):
            self.assertIs(is_paper_for([ONE, TWO], Let(12, {"start": []}), length, {}), True)


class Stuck(KindsCase):

    def test_the_returned_one(self):
        found = 0
        for kinds, let, unlike in samples():
            told = stuck_for(kinds, let, apart=unlike)
            self.assertIs(told is None, least_for(kinds, let, apart=unlike) is not None)
            if told is not None:
                self.assertEqual(told, come_to(SlowSeveral(kinds, let, unlike)))
                self.assertIs(is_stuck_for(kinds, let, told, apart=unlike), True)
                found += len(told) > 1
        self.assertGreater(found, 10)

    def test_spoilt_ones(self):
        chance = random.Random(26)
        good = bad = 0
        for kinds, let, unlike in samples():
            slow = SlowSeveral(kinds, let, unlike)
            nodes = all_rows(kinds, let)
            slow.all_nodes = lambda rows=nodes: rows
            for thing in spoilt_lists(chance, stuck_for(kinds, let, apart=unlike) or nodes, nodes):
                told = judged_stuck(slow, thing)
                self.assertIs(is_stuck_for(kinds, let, thing, apart=unlike), told, thing)
                good += told
                bad += not told
        self.assertGreater(good, 50)
        self.assertGreater(bad, 1000)

    def test_strange_things(self):
        told = stuck_for([ONE, TWO], STUCK_LET)
        self.assertEqual(told, [("start", "push", ((0, 1), (0, 1)))])
        self.assertIs(is_stuck_for(parts=[ONE, TWO], let=STUCK_LET, thing=told), True)
        for thing in NOT_INTEGERS + [0, HUGE, tuple(told), {told[0]: 0}]:
            self.assertIs(is_stuck_for([ONE, TWO], STUCK_LET, thing), False)
        for item in NOT_INTEGERS + near_rows(told[0]) + DEEP + [told[0]]:
            self.assertIs(is_stuck_for([ONE, TWO], STUCK_LET, told + [item]), False)
        self.assertIs(is_stuck_for([ONE, TWO], Let(12, {"start": []}), []), True)
        self.assertIs(is_stuck_for([ONE, TWO], Let(12, {"start": []}), ()), False)

    def test_large_ones(self):
        chance = random.Random(27)
        for many in (2, 3):
            kinds = kinds_of(chance, 360, ["push"], many)
            let = random_let(chance, 360, ["push"], 3, 6)
            for unlike in (False, True):
                least = least_for(kinds, let, apart=unlike)
                if least is None:
                    self.assertTrue(is_stuck_for(kinds, let, stuck_for(kinds, let, apart=unlike), apart=unlike))
                else:
                    plan = shortest_for(kinds, let, apart=unlike)
                    self.assertTrue(does_for(kinds, plan, apart=unlike))
                    self.assertTrue(is_paper_for(kinds, let, len(plan), paper_for(kinds, let, apart=unlike), apart=unlike))
