"""Points 46 to 52, and points 2 to 7 as far as they speak of shortest plans."""

import copy
import random

from jawturns.errors import BadPlan, BadRound, BadWord, NoPlan, TooMany
from jawturns.machines import Let
from jawturns.parts import Part
from jawturns.plans import Plan, does
from jawturns.shortest import is_paper, is_stuck, least_length, paper, plans, shortest, stuck
from jawturns.turnings import Turning
from tests.helpers import DEEP, HUGE, NOT_INTEGERS, Case
from tests.samples import (EVEN, ODD, STILL, climbing_part, lets_for, random_let, random_part, slow_machine,
                           small_parts)
from tests.slow import (SlowPart, come_to, free_plans, judged_paper, judged_stuck, let_plans, slow_paper)

EXAMPLE = Part(push=Turning(12, [(0, 2), (5, 8)]))
STUCK_LET = Let(12, {"start": [("push", 0, "start")]})
NEVER = Let(12, {"start": [("push", 0, "start"), ("push", 1, "a")], "a": []})
ALL_CALLS = [("least_length", lambda part, let: least_length(part, let)),
             ("shortest", lambda part, let: shortest(part, let)),
             ("paper", lambda part, let: paper(part, let)),
             ("is_paper", lambda part, let: is_paper(part, None, None, let)),
             ("stuck", lambda part, let: stuck(part, let)),
             ("is_stuck", lambda part, let: is_stuck(part, None, let)),
             ("plans", lambda part, let: list(plans(part, None, let)))]


def spoilt_papers(chance, told, nodes):
    """Dicts that are the paper with a number, a key or an item changed, left out or put in."""
    keys = list(told)
    found = [{}, {key: told[key] for key in keys[::-1]}, dict(told)]
    for key in chance.sample(keys, min(4, len(keys))):
        for number in (told[key] + 1, told[key] - 1, 0, 1, 99, HUGE, -HUGE, True, False, None, 1.0, "1", [1], (1,),
                       {}, float(told[key]), DEEP[0]):
            found.append({**told, key: number})
        rest = {other: told[other] for other in keys if other != key}
        found.extend([rest, {**rest, key + (0,): told[key]}, {**rest, key[:-1]: told[key]}])
        if isinstance(key[-1], int):
            found.extend([{**rest, key[:-1] + (float(key[-1]),): told[key]},
                          {**rest, key[:-1] + (str(key[-1]),): told[key]},
                          {**rest, key[:-2] + (bool(key[-2]), key[-1]): told[key]}])
    for node in chance.sample(nodes, min(6, len(nodes))):
        for number in (0, 1, 2, 9):
            found.append({**told, node: number})
    for strange in (None, True, 0, 1.5, "", "stand", (), ("", "push"), ("", "push", 0, 1, 2), ("x", "push", 0, 1),
                    DEEP[1]):
        found.append({**told, strange: 0})
    lows = {key: max(0, told[key] - 1) for key in keys}
    found.extend([lows, {key: 0 for key in keys}, {node: 0 for node in nodes}])
    return found


def spoilt_lists(chance, told, nodes):
    """Lists that are the stuck list with an item changed, left out, put in, twice or strange."""
    mixed = list(told)
    chance.shuffle(mixed)
    found = [[], list(told), mixed, list(told)[::-1], tuple(told), {item: 0 for item in told}, [tuple(told)], [list(told)]]
    for at in chance.sample(range(len(told)), min(4, len(told))):
        item = told[at]
        rest = told[:at] + told[at + 1:]
        found.extend([rest, told + [item], [item] + told, rest + [list(item)], rest + [item + (0,)], rest + [item[:-1]],
                      rest + [item[:-1] + (HUGE,)], rest + [None], rest + [("x",) + item[1:]]])
        if isinstance(item[-1], int):
            found.extend([rest + [item[:-2] + (bool(item[-2]), item[-1])], rest + [item[:-1] + (float(item[-1]),)]])
    for node in chance.sample(nodes, min(6, len(nodes))):
        found.append(told + [node])
    for strange in [None, True, 0, 1.5, "", "stand", (), [], {}, ("", "push"), ("", "push", 0, 1, 2)] + DEEP:
        found.append(told + [strange])
    return found


class Least(Case):

    def test_examples_of_the_interface(self):
        self.assertEqual(shortest(EXAMPLE).deeds, (("push", 0), ("push", 3)))
        self.assertEqual(paper(EXAMPLE), {("", "push", 0, 1): 1, ("", "push", 1, 2): 1})
        self.assertEqual(stuck(EXAMPLE, STUCK_LET), [("start", "push", 0, 1), ("start", "push", 1, 2)])

    def test_without_a_machine_against_all_plans(self):
        for part in small_parts():
            length = 0
            while True:
                right = [deeds for deeds in free_plans(part, length) if does(part, Plan(part.around, deeds))]
                if right or part.around ** length > 5000:
                    break
                length += 1
            if not right:
                continue
            self.assertEqual(least_length(part), length)
            self.assertEqual(least_length(part=part, let=None), length)
            found = shortest(part)
            self.assertIsInstance(found, Plan)
            self.assertEqual([found.around, found.deeds], [part.around, min(right)])

    def test_with_a_machine_against_all_plans(self):
        found = {None: 0, 0: 0, 1: 0, 2: 0, 3: 0}
        for part in small_parts():
            for let in lets_for(part):
                told = None
                for length in range(6):
                    right = [deeds for deeds in let_plans(let, length) if does(part, Plan(part.around, deeds))]
                    if right:
                        told = length
                        break
                if told is not None:
                    self.assertEqual(least_length(part, let), told)
                    self.assertEqual(shortest(part, let), Plan(part.around, right[0]))
                    self.assertIsNone(stuck(part, let))
                elif least_length(part, let) is None:
                    self.fails(NoPlan, shortest, part, let)
                    self.fails(NoPlan, paper, part, let)
                    self.assertIsInstance(stuck(part, let), list)
                else:
                    self.assertGreater(least_length(part, let), 5)
                found[min(told, 3) if told is not None else None] += 1
        self.assertGreater(min(found.values()), 3)

    def test_large_parts(self):
        chance = random.Random(18)
        for words in (["push"], ["squeeze"], ["push", "squeeze"]):
            for _ in range(3):
                part = random_part(chance, 360, words, 12)
                plan = shortest(part)
                self.assertTrue(does(part, plan))
                self.assertEqual(len(plan), least_length(part))
                self.assertLessEqual(len(plan), part.period)
                # Without a machine every turn is below the period and the first one is 0.
                self.assertEqual([turn for _, turn in plan if turn >= part.period], [])
                self.assertEqual(plan.deeds[:1], ((plan[0][0], 0),))
                told = paper(part)
                self.assertTrue(is_paper(part, len(plan), told))
                self.assertFalse(is_paper(part, len(plan) + 1, told))
                let = random_let(chance, 360, words, 5, 30)
                if least_length(part, let) is None:
                    self.assertTrue(is_stuck(part, stuck(part, let), let))
                else:
                    plan = shortest(part, let)
                    self.assertTrue(does(part, plan) and let.state_after(plan) is not None)
                    self.assertTrue(is_paper(part, len(plan), paper(part, let), let))

    def test_the_least_is_told_by_turns_and_not_by_rules(self):
        # Rules are relative: behind the turn 4 the greater rule has the lesser turn.
        let = Let(12, {"start": [("push", 11, "a"), ("push", 4, "a")], "a": [("push", 3, "a"), ("push", 9, "a")]})
        right = [deeds for deeds in let_plans(let, 2) if does(EXAMPLE, Plan(12, deeds))]
        self.assertEqual(right, [(("push", 4), ("push", 1)), (("push", 4), ("push", 7)),
                                 (("push", 11), ("push", 2)), (("push", 11), ("push", 8))])
        self.assertEqual(shortest(EXAMPLE, let).deeds, right[0])

    def test_period_one(self):
        for let in (None, Let(2, {"start": []}), Let(2, {"start": [("push", 1, "start")]})):
            self.assertEqual([least_length(STILL, let), shortest(STILL, let), paper(STILL, let), stuck(STILL, let)],
                             [0, Plan(2, []), {}, None])
            self.assertIs(is_stuck(STILL, [], let), False)
            self.assertIs(is_paper(STILL, 0, {}, let), True)
            self.assertIs(is_paper(STILL, 1, {}, let), False)

    def test_one_deed(self):
        part = Part(push=Turning(12, [(3, 5)]))
        self.assertEqual([least_length(part), shortest(part), paper(part), stuck(part)],
                         [1, Plan(12, [("push", 0)]), {}, None])
        # The push alone comes right at once; the other word still has first stands that are not closed.
        both = Part(EVEN, Turning(12, [(3, 5)]))
        self.assertEqual([least_length(both), shortest(both).deeds], [1, (("push", 0),)])
        self.assertEqual(set(paper(both).values()), {0})
        self.assertEqual([key[1] for key in list(paper(both))], ["squeeze"] * len(paper(both)))
        self.assertTrue(is_paper(both, 1, paper(both)))
        let = Let(12, {"start": [("push", 9, "start"), ("push", 2, "a"), ("squeeze", 0, "a")], "a": []})
        self.assertEqual(shortest(both, let).deeds, (("push", 2),))

    def test_no_plan(self):
        for let in (STUCK_LET, Let(12, {"start": []}), NEVER, Let(12, {"start": [], "a": [("push", 3, "a")]})):
            self.assertIsNone(least_length(EXAMPLE, let))
            self.fails(NoPlan, shortest, EXAMPLE, let)
            self.fails(NoPlan, paper, EXAMPLE, let)
            self.assertTrue(is_stuck(EXAMPLE, stuck(EXAMPLE, let), let))
        self.assertEqual(stuck(EXAMPLE, Let(12, {"start": []})), [])

    def test_400_deeds_and_one_more(self):
        part, steps = climbing_part(11)
        names = ["start", "a", "b", "c", "d"]
        let = slow_machine(330, steps, names[:4], "start")
        plan = shortest(part, let)
        self.assertEqual([len(plan), least_length(part, let)], [400, 400])
        self.assertTrue(does(part, plan))
        self.assertIsNotNone(let.state_after(plan))
        for back, least in (("a", 401), ("start", 500)):
            more = slow_machine(330, steps, names, back)
            self.refused(TooMany, 400, shortest, part, more)
            self.assertEqual([least_length(part, more), stuck(part, more)], [least, None])
            told = paper(part, more)
            self.assertTrue(is_paper(part, least, told, more))
            self.assertFalse(is_paper(part, least + 1, told, more))

    def test_the_machine_is_checked_first(self):
        for name, call in ALL_CALLS:
            with self.subTest(name):
                self.refused(BadRound, 13, call, EXAMPLE, Let(13, {"start": [("squeeze", 0, "start")]}))
                self.refused(BadWord, "squeeze", call, EXAMPLE, Let(12, {"start": [("squeeze", 0, "start")]}))
                self.refused(BadWord, "squeeze", call, EXAMPLE, Let(12, {"start": [], "a": [("squeeze", 0, "a")]}))
                self.refused(BadWord, "push", call, Part(EVEN), STUCK_LET)

    def test_nothing_is_changed(self):
        part, let = EXAMPLE.copy(), Let(12, {"start": [("push", 3, "start"), ("push", 0, "start")]})
        first = [shortest(part, let), paper(part, let), stuck(part, let), list(plans(part, 2, let))]
        paper(part, let).clear()
        told = paper(part, let)
        kept = copy.deepcopy(told)
        is_paper(part, 2, told, let)
        is_stuck(part, list(told), let)
        self.assertEqual([shortest(part, let), paper(part, let), stuck(part, let), list(plans(part, 2, let))], first)
        self.assertEqual([told, part], [kept, EXAMPLE])
        stuck(part, STUCK_LET).clear()
        self.assertEqual(len(stuck(part, STUCK_LET)), 2)


class Papers(Case):

    def test_the_returned_one(self):
        for part in small_parts():
            for let in [None] + lets_for(part):
                slow = SlowPart(part, let)
                least = least_length(part, let)
                if least is None:
                    continue
                told = paper(part, let)
                self.assertEqual(told, slow_paper(slow, least))
                self.assertEqual(list(told), sorted(told))
                self.assertIs(is_paper(part, least, told, let), True)
                self.assertIs(is_paper(part, least + 1, told, let), False)
                for length in range(least):
                    self.assertIs(is_paper(part, length, told, let), judged_paper(slow, length, told))

    def test_spoilt_ones(self):
        chance = random.Random(19)
        good = bad = 0
        for part in small_parts():
            for let in [None] + lets_for(part, count=5):
                slow = SlowPart(part, let)
                least = least_length(part, let)
                if least is None or chance.random() < 0.5:
                    continue
                nodes = slow.all_nodes()
                for thing in spoilt_papers(chance, paper(part, let), nodes):
                    for length in (least, least - 1, least + 1):
                        told = judged_paper(slow, length, thing)
                        self.assertIs(is_paper(part, length, thing, let), told, (part, length, thing, let))
                        good += told
                        bad += not told
        self.assertGreater(good, 500)
        self.assertGreater(bad, 5000)

    def test_papers_by_chance_are_right(self):
        chance = random.Random(20)
        found = 0
        for part in small_parts():
            for let in lets_for(part):
                slow = SlowPart(part, let)
                nodes = [node for node in slow.all_nodes() if not slow.is_end(node)]
                for _ in range(10):
                    thing = {node: chance.randrange(3) for node in nodes}
                    for length in (1, 2, 3):
                        told = is_paper(part, length, thing, let)
                        self.assertIs(told, judged_paper(slow, length, thing))
                        if told:
                            found += 1
                            # What a paper shows is so.
                            least = least_length(part, let)
                            self.assertTrue(least is None or least >= length)
        self.assertGreater(found, 20)

    def test_lengths(self):
        told = paper(EXAMPLE)
        self.assertIs(is_paper(part=EXAMPLE, length=2, thing=told, let=None), True)
        self.assertIs(is_paper(EXAMPLE, 1, told), True)
        for length in [-1, 3, HUGE, -HUGE, 0] + NOT_INTEGERS + [2.0, "2", (2,), [2]]:
            self.assertIs(is_paper(EXAMPLE, length, told), False)
        for length in [-1, 1, 2, HUGE, -HUGE] + NOT_INTEGERS:
            self.assertIs(is_paper(EXAMPLE, length, {}), False)
        for let in (None, STUCK_LET, Let(12, {"start": []})):
            self.assertIs(is_paper(EXAMPLE, 0, {}, let), True)
        # Where nothing may come first, the empty dict shows it for every length from 1 on.
        for length in (1, 2, HUGE):
            self.assertIs(is_paper(EXAMPLE, length, {}, Let(12, {"start": []})), True)
            self.assertIs(is_paper(STILL, length, {}, Let(2, {"start": []})), False)
        self.assertIs(is_paper(EXAMPLE, True, told), False)
        self.assertIs(is_paper(EXAMPLE, False, {}), False)

    def test_papers_where_no_plan_does(self):
        stands = stuck(EXAMPLE, STUCK_LET)
        for length in (1, 2, 3, 500, HUGE):
            told = {stand: length - 1 for stand in stands}
            self.assertIs(is_paper(EXAMPLE, length, told, STUCK_LET), True)
            self.assertIs(is_paper(EXAMPLE, length + 1, told, STUCK_LET), False)

    def test_strange_things(self):
        told = paper(EXAMPLE)
        for thing in NOT_INTEGERS + [0, HUGE, list(told), list(told.items()), tuple(told.items()), (told,), [told]]:
            self.assertIs(is_paper(EXAMPLE, 2, thing), False)
            if thing != {}:
                self.assertIs(is_paper(EXAMPLE, 0, thing), False)
        for thing in DEEP:
            self.assertIs(is_paper(EXAMPLE, 2, {**told, ("", "push", 0, 1): thing}), False)

    def test_keys_of_other_states_and_words(self):
        told = paper(EXAMPLE)
        for key in (("", "squeeze", 0, 1), ("start", "push", 0, 1), ("", "push", 0, 0), ("", "push", 2, 3),
                    ("", "push", 0, 2)):
            self.assertIs(is_paper(EXAMPLE, 2, {**told, key: 0}), False)


class Stuck(Case):

    def test_the_returned_one(self):
        found = 0
        for part in small_parts():
            for let in lets_for(part, count=5):
                told = stuck(part, let)
                self.assertIs(told is None, least_length(part, let) is not None)
                if told is not None:
                    self.assertEqual(told, come_to(SlowPart(part, let)))
                    self.assertIs(is_stuck(part, told, let), True)
                    found += len(told) > 1
        self.assertGreater(found, 10)
        for part in small_parts():
            self.assertIsNone(stuck(part))
            self.assertIsNone(stuck(part=part, let=None))

    def test_spoilt_ones(self):
        chance = random.Random(21)
        good = bad = 0
        for part in small_parts():
            for let in lets_for(part, count=5):
                slow = SlowPart(part, let)
                for thing in spoilt_lists(chance, stuck(part, let) or come_to(slow), slow.all_nodes()):
                    told = judged_stuck(slow, thing)
                    self.assertIs(is_stuck(part, thing, let), told, (thing, let))
                    good += told
                    bad += not told
        self.assertGreater(good, 100)
        self.assertGreater(bad, 2000)

    def test_more_stands_than_are_come_to(self):
        told = stuck(EXAMPLE, STUCK_LET)
        let = Let(12, {"start": [("push", 0, "start")], "a": []})
        self.assertIs(is_stuck(EXAMPLE, told + [("a", "push", 0, 1)], let), True)
        self.assertIs(is_stuck(EXAMPLE, told + [("a", "push", 0, 0)], let), False)
        self.assertIs(is_stuck(EXAMPLE, told + [("a", "push", 0, 1)], STUCK_LET), False)

    def test_strange_things(self):
        told = stuck(EXAMPLE, STUCK_LET)
        self.assertIs(is_stuck(part=EXAMPLE, thing=told[::-1], let=STUCK_LET), True)
        for thing in NOT_INTEGERS + [0, HUGE, tuple(told), {item: 0 for item in told}]:
            self.assertIs(is_stuck(EXAMPLE, thing, STUCK_LET), False)
        for thing in NOT_INTEGERS:
            self.assertIs(is_stuck(EXAMPLE, told + [thing], STUCK_LET), False)
            self.assertIs(is_stuck(EXAMPLE, [thing] + told, STUCK_LET), False)
        self.assertIs(is_stuck(EXAMPLE, [], Let(12, {"start": []})), True)
        self.assertIs(is_stuck(EXAMPLE, (), Let(12, {"start": []})), False)
        self.assertIs(is_stuck(EXAMPLE, []), False)


class Listing(Case):

    def test_all_plans_in_ascending_order(self):
        many = 0
        for part in small_parts():
            for let in lets_for(part, count=5):
                for length in range(5):
                    told = let_plans(let, length)
                    if len(told) > 600:
                        self.refused(TooMany, 600, lambda: list(plans(part, length, let)))
                        continue
                    right = [Plan(part.around, deeds) for deeds in told if does(part, Plan(part.around, deeds))]
                    self.assertEqual(list(plans(part, length, let)), right)
                    many += len(right)
        self.assertGreater(many, 500)

    def test_it_is_a_generator(self):
        found = plans(part=EXAMPLE, length=2, let=Let.steps(12, ["push"], 3, 4))
        self.assertIs(iter(found), found)
        self.assertEqual(next(found).deeds, (("push", 0), ("push", 3)))
        self.assertTrue(all(does(EXAMPLE, plan) for plan in found))
        self.assertEqual(list(found), [])

    def test_lengths(self):
        let = Let(12, {"start": [("push", 3, "start")]})
        self.assertEqual([len(list(plans(EXAMPLE, length, let))) for length in (0, 1, 2, 12)], [0, 0, 1, 1])
        self.assertEqual(list(plans(STILL, 0, Let(2, {"start": []}))), [Plan(2, [])])
        self.assertEqual(list(plans(STILL, 1, Let(2, {"start": []}))), [])
        for length in [-1, 13, 400, HUGE, -HUGE] + NOT_INTEGERS:
            self.refused(BadPlan, -1, lambda many: list(plans(EXAMPLE, many, let)), length)

    def test_600_plans_and_one_more(self):
        def machine(many):
            return Let(60, {"start": [("push", k, "a") for k in range(20)],
                            "a": [("push", k, "a") for k in range(30)][:many], "b": []})

        part = Part(push=Turning(60, [(0, 5), (20, 31)]))
        self.assertEqual(machine(30).many(2), 600)
        found = list(plans(part, 2, machine(30)))
        self.assertEqual(found, [Plan(60, deeds) for deeds in let_plans(machine(30), 2) if does(part, Plan(60, deeds))])
        self.assertGreater(len(found), 0)
        more = Let(60, {"start": [("push", k, "a") for k in range(20)] + [("push", 20, "b")],
                        "a": [("push", k, "a") for k in range(30)], "b": [("push", 0, "b")]})
        self.assertEqual(more.many(2), 601)
        self.refused(TooMany, 600, lambda: list(plans(part, 2, more)))
        # The plans that are let count, whether they do or not; and so many that nobody could list them.
        self.refused(TooMany, 600, lambda: list(plans(STILL, 12, Let.steps(2, ["push"], 1, 2))))
        self.refused(TooMany, 600, lambda: list(plans(part, 12, Let.steps(60, ["push"], 1, 40))))
        self.assertEqual(len(list(plans(STILL, 9, Let.steps(2, ["push"], 1, 2)))), 512)

    def test_beginnings_that_lead_nowhere_are_not_listed(self):
        names = ["start", "a", "b", "c", "d"]
        rules = {state: [("push", k, goal) for k in range(40)] for state, goal in zip(names, names[1:])}
        let = Let(60, {**rules, "d": []})
        self.assertEqual([let.many(4), let.many(5)], [40 ** 4, 0])
        self.assertEqual(list(plans(Part(push=Turning(60, [(0, 5)])), 12, let)), [])

    def test_errors_in_order(self):
        let = Let.steps(12, ["push", "squeeze"], 1, 20)
        self.refused(BadWord, "squeeze", lambda: list(plans(EXAMPLE, 99, let)))
        self.refused(BadRound, 12, lambda: list(plans(STILL, None, let)))
        self.refused(BadPlan, -1, lambda: list(plans(Part(EVEN, ODD), 13, let)))
