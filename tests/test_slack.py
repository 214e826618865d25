"""Points 65 to 67, and points 2 to 7, 48 and 49 as far as they speak of slack."""

import copy
import random
from unittest import mock

from jawturns.errors import BadRound, BadSlack, BadWord, NoPlan, TooMany
from jawturns.lots import all_rows
from jawturns.machines import Let
from jawturns.parts import Part
from jawturns.plans import Plan, does
from jawturns.slack import (Slack, is_never_sure, is_sure_paper, least_sure, left_after, never_sure, shortest_sure,
                            sure, sure_paper)
from jawturns.turnings import Turning
from tests.helpers import HUGE, NOT_INTEGERS, Case, slow_period, table
from tests.samples import EVEN, ODD, STILL, few_rows, random_let, random_part, small_parts
from tests.slow import SlowRows, come_to, judged_paper, judged_stuck, let_plans, slow_paper
from tests.test_shortest import spoilt_lists, spoilt_papers

PART = Part(push=ODD)
BOTH = Part(EVEN, ODD)
PLAN = Plan(12, [("push", 0), ("push", 3)])
LET = Let(12, {"start": [("push", 0, "start"), ("push", 3, "start")]})
STUCK_LET = Let(12, {"start": [("push", 0, "start")]})
CALLS = [lambda part, let, room: least_sure(part, let, Slack(0, 0), room),
         lambda part, let, room: shortest_sure(part, let, Slack(1, 0), room),
         lambda part, let, room: sure_paper(part, let, Slack(0, 1), room),
         lambda part, let, room: never_sure(part, let, Slack(60, 60), room),
         lambda part, let, room: is_sure_paper(part, let, Slack(0, 0), room, None, None),
         lambda part, let, room: is_never_sure(part, let, Slack(0, 0), room, None)]


def slow_left(part, slack, plan):
    """The rests behind a plan by real standings, deed by deed, as point 65 tells them."""
    lifts = {word: table(part.around, part[word].rows) for word in part.words}
    span = slow_period(part.around, list(lifts.values()))
    near = standings = set(range(part.around))
    for word, turn in plan:
        near = {(lifts[word](x - turn + y) + turn) % part.around
                for x in standings for y in range(-slack.border, slack.border + 1)}
        standings = {(x + z) % part.around for x in near for z in range(-slack.rest, slack.rest + 1)}
    return sorted({x % span for x in near})


def slow_cover(standings, span):
    """The least c of point 66, tried one after the other."""
    return min(c for c in range(span) for z in range(span)
               if all(any((z + y - x) % span == 0 for y in range(c + 1)) for x in standings))


class SlowSure(SlowRows):
    """Rows of one part with slack whose ends are those of point 67."""

    def __init__(self, part, let, slack, room):
        SlowRows.__init__(self, [part], let, slack.rest + slack.border)
        self.room = room

    def empty_does(self):
        return self.parts[0].period - 1 <= self.room

    def is_end(self, row):
        one = self.kinds[0][row[1]]
        return slow_cover([one.rests[at] for at in row[2][0]], one.span) <= self.room


def samples(seed=41, count=80):
    """Tuples (part, machine, slack, room) of small parts."""
    chance = random.Random(seed)
    found = []
    while len(found) < count:
        around = chance.choice([2, 5, 6, 12, 12, 16])
        words = chance.choice([["push"], ["push", "squeeze"] if around % 2 == 0 else ["push"]])
        part = random_part(chance, around, words, 5)
        let = random_let(chance, around, words, chance.randint(1, 3), 4)
        slack = Slack(chance.choice([0, 0, 0, 1]), chance.choice([0, 0, 0, 1, 3]))
        room = min(chance.choice([0, 0, 0, 0, 1, 3, part.period - 1]), around)
        if few_rows([part], let) and len(all_rows([part], let, spread=slack.rest + slack.border)) <= 30:
            found.append((part, let, slack, room))
    return found


class Slacks(Case):

    def test_numbers(self):
        for rest, border in ((0, 0), (0, 60), (60, 0), (60, 60), (7, 5)):
            self.assertEqual(vars(Slack(rest, border)), {"rest": rest, "border": border})
            self.assertEqual(vars(Slack(border=border, rest=rest)), {"rest": rest, "border": border})

    def test_refused(self):
        for value in [-1, 61, HUGE, -HUGE] + NOT_INTEGERS:
            self.refused(BadSlack, value, Slack, value, 0)
            self.refused(BadSlack, value, Slack, 60, value)
            self.refused(BadSlack, value, Slack, value, "border")

    def test_equality(self):
        self.assertEqual(Slack(1, 2), Slack(1, 2))
        self.assertFalse(Slack(1, 2) != Slack(1, 2))
        for other in (Slack(2, 1), Slack(1, 1), Slack(2, 2), (1, 2), [1, 2], None, 0, "Slack", PART):
            self.assertFalse(Slack(1, 2) == other)
            self.assertTrue(Slack(1, 2) != other)


class Left(Case):

    def test_examples_of_the_interface(self):
        self.assertEqual(left_after(PART, Slack(0, 0), PLAN), [11])
        self.assertEqual(left_after(PART, Slack(0, 1), PLAN), [5, 11])
        self.assertIs(sure(PART, Slack(0, 1), PLAN, 6), True)
        self.assertIs(sure(PART, Slack(0, 1), PLAN, 5), False)

    def test_by_real_standings(self):
        chance = random.Random(42)
        for around, words in ((2, ["push"]), (5, ["push"]), (12, ["push"]), (12, ["push", "squeeze"]), (24, ["squeeze"])):
            for _ in range(6):
                part = random_part(chance, around, words, 5)
                for _ in range(6):
                    slack = Slack(chance.randrange(4), chance.randrange(4))
                    deeds = [(chance.choice(words), chance.randrange(around)) for _ in range(chance.randrange(5))]
                    plan = Plan(around, deeds)
                    told = left_after(part=part, slack=slack, plan=plan)
                    self.assertEqual(told, slow_left(part, slack, plan))
                    for room in sorted({0, 1, around // 2, around}):
                        covered = slow_cover(told, part.period)
                        self.assertIs(sure(part=part, slack=slack, plan=plan, room=room), covered <= room)

    def test_large_slack(self):
        chance = random.Random(43)
        part = random_part(chance, 360, ["push"], 12)
        plan = Plan(360, [("push", chance.randrange(360)) for _ in range(4)])
        for slack in (Slack(60, 60), Slack(60, 0), Slack(0, 60), Slack(13, 2)):
            self.assertEqual(left_after(part, slack, plan), slow_left(part, slack, plan))
        self.assertEqual(left_after(Part(push=Turning(2, [(0, 1)])), Slack(60, 60), Plan(2, [("push", 1)] * 3)), [0])

    def test_without_slack_as_does(self):
        for part in small_parts(44):
            for word in part.words:
                for turn in range(part.around):
                    plan = Plan(part.around, [(word, 1), (word, turn)])
                    self.assertIs(sure(part, Slack(0, 0), plan), does(part, plan))

    def test_the_empty_plan_and_rooms(self):
        empty = Plan(12, [])
        for part, span in ((PART, 12), (Part(EVEN), 6), (Part(push=Turning(12, [(k, k) for k in range(12)])), 1)):
            self.assertEqual(left_after(part, Slack(3, 4), empty), list(range(span)))
            for room in range(13):
                self.assertIs(sure(part, Slack(3, 4), empty, room), span - 1 <= room)
        self.assertIs(sure(STILL, Slack(60, 60), Plan(2, [])), True)

    def test_a_gap_around_the_end(self):
        # The rests 1 and 11 are two places apart, around the end of the round.
        part = Part(push=Turning(12, [(0, 1), (5, 11)]))
        plan = Plan(12, [("push", 0)])
        self.assertEqual(left_after(part, Slack(0, 0), plan), [1, 11])
        self.assertEqual([room for room in range(13) if sure(part, Slack(0, 0), plan, room)], list(range(2, 13)))

    def test_further_deeds_may_spoil_it(self):
        part = Part(push=Turning(12, [(0, 2), (4, 5)]))
        slack = Slack(0, 1)
        told = [sure(part, slack, Plan(12, [("push", 0), ("push", a), ("push", b)]), 0)
                for a in range(12) for b in range(12) if sure(part, slack, Plan(12, [("push", 0), ("push", a)]), 0)]
        self.assertIn(True, told)
        self.assertIn(False, told)

    def test_checks(self):
        for call in (lambda part, plan: left_after(part, Slack(0, 0), plan),
                     lambda part, plan: sure(part, Slack(0, 0), plan, None)):
            self.refused(BadRound, 13, call, PART, Plan(13, [("squeeze", 0)]))
            self.refused(BadWord, "squeeze", call, PART, Plan(12, [("push", 0), ("squeeze", 0)]))
        for room in [-1, 13, HUGE, -HUGE] + NOT_INTEGERS:
            self.refused(BadSlack, room, sure, PART, Slack(0, 0), PLAN, room)
            self.refused(BadSlack, room, sure, PART, Slack(0, 0), Plan(12, []), room)
        for room in (0, 12):
            self.assertIs(sure(PART, Slack(0, 0), PLAN, room), True)


class Least(Case):

    def test_against_all_plans(self):
        found = {None: 0, 0: 0, 1: 0, 2: 0, 3: 0}
        for part, let, slack, room in samples() + samples(45):
            told = None
            for length in range(5):
                right = [deeds for deeds in let_plans(let, length)
                         if slow_cover(slow_left(part, slack, deeds), part.period) <= room]
                if right:
                    told = length
                    break
            if told is not None:
                self.assertEqual(least_sure(part, let, slack, room), told)
                self.assertEqual(shortest_sure(part, let, slack, room), Plan(part.around, right[0]))
                self.assertIsNone(never_sure(part, let, slack, room))
                found[min(told, 3)] += 1
            elif least_sure(part, let, slack, room) is None:
                self.fails(NoPlan, shortest_sure, part, let, slack, room)
                self.fails(NoPlan, sure_paper, part, let, slack, room)
                found[None] += 1
            else:
                self.assertGreater(least_sure(part, let, slack, room), 4)
        self.assertGreater(min(found.values()), 3)

    def test_the_room_is_0_if_none_is_told(self):
        slack = Slack(0, 0)
        self.assertEqual(least_sure(PART, LET, slack), least_sure(part=PART, let=LET, slack=slack, room=0))
        self.assertEqual(shortest_sure(PART, LET, slack), PLAN)
        self.assertEqual(sure_paper(PART, LET, slack), {("start", "push", ((0, 1),)): 1})
        self.assertEqual(never_sure(PART, STUCK_LET, slack), [("start", "push", ((0, 1),))])
        self.assertIs(sure(PART, slack, PLAN), True)

    def test_a_room_of_1_is_not_told_by_none(self):
        # The rests 2 and 3 stay apart, and a room of 1 takes them both in.
        part, slack, let = Part(push=Turning(12, [(0, 2), (3, 3)])), Slack(0, 0), STUCK_LET
        self.assertEqual([least_sure(part, let, slack), least_sure(part, let, slack, 1)], [None, 1])
        self.fails(NoPlan, shortest_sure, part, let, slack)
        self.fails(NoPlan, sure_paper, part, let, slack)
        self.assertEqual([shortest_sure(part, let, slack, 1), sure_paper(part, let, slack, 1)], [Plan(12, [("push", 0)]), {}])
        self.assertEqual([never_sure(part, let, slack), never_sure(part, let, slack, 1)], [[("start", "push", ((0, 1),))], None])

    def test_rooms_for_all(self):
        # A room of a period less 1 takes in every standing.
        for part, let, slack, _ in samples(46)[:20]:
            for room in range(part.period - 1, part.around + 1):
                self.assertEqual([least_sure(part, let, slack, room), shortest_sure(part, let, slack, room),
                                  sure_paper(part, let, slack, room), never_sure(part, let, slack, room)],
                                 [0, Plan(part.around, []), {}, None])
                self.assertIs(is_sure_paper(part, let, slack, room, 0, {}), True)
                self.assertIs(is_sure_paper(part, let, slack, room, 1, {}), False)
                self.assertIs(is_never_sure(part, let, slack, room, []), False)

    def test_large_ones(self):
        chance = random.Random(47)
        many = 0
        for _ in range(12):
            part = random_part(chance, 360, ["push"], 6)
            let = random_let(chance, 360, ["push"], 3, 6)
            slack, room = Slack(chance.randrange(20), chance.randrange(20)), chance.randrange(200)
            least = least_sure(part, let, slack, room)
            if least is None:
                self.assertIs(is_never_sure(part, let, slack, room, never_sure(part, let, slack, room)), True)
                continue
            plan = shortest_sure(part, let, slack, room)
            self.assertIs(sure(part, slack, plan, room), True)
            self.assertIsNotNone(let.state_after(plan))
            told = sure_paper(part, let, slack, room)
            self.assertIs(is_sure_paper(part, let, slack, room, len(plan), told), True)
            self.assertIs(is_sure_paper(part, let, slack, room, len(plan) + 1, told), False)
            many += 1
        self.assertGreater(many, 2)

    def test_600_rows_and_one_more(self):
        part = Part(push=Turning(12, [(0, 0), (1, 1), (2, 2), (4, 4), (5, 5), (6, 6), (7, 7), (8, 8), (9, 9), (10, 11)]))
        rules = {"start": [("push", 0, "x")], "x": [("push", turn, "x") for turn in (6, 7, 10)], "a": [], "b": [], "c": []}
        for many, more in ((598, ""), (599, "a"), (600, "ab"), (601, "abc")):
            rules["start"] = [("push", 0, "x")] + [("push", at, state) for at, state in enumerate(more, 1)]
            let = Let(12, rules)
            for room in (0, 12):
                if many <= 600:
                    self.assertEqual(len(all_rows([part], let)), many)
                    self.assertIs(is_sure_paper(part, let, Slack(0, 0), room, least_sure(part, let, Slack(0, 0), room),
                                                sure_paper(part, let, Slack(0, 0), room)), True)
                    continue
                # All of them count, also where the empty plan is sure already.
                for call in (least_sure, shortest_sure, sure_paper, never_sure):
                    self.refused(TooMany, 600, call, part, let, Slack(0, 0), room)
                self.assertIs(is_sure_paper(part, let, Slack(0, 0), room, 0, {}), True)
                self.assertIs(is_never_sure(part, let, Slack(0, 0), room, []), False)
            self.refused(BadSlack, 13, least_sure, part, let, Slack(0, 0), 13)
            # With slack fewer rows are come to.
            self.assertIs(is_sure_paper(part, let, Slack(0, 1), 12, 0, sure_paper(part, let, Slack(0, 1), 12)), True)

    def test_more_deeds_than_a_plan_may_have(self):
        for most, least in ((2, 2), (1, 2)):
            with mock.patch("jawturns.searches.MOST_DEEDS", most):
                self.assertEqual(least_sure(PART, LET, Slack(0, 0)), least)
                if most < least:
                    self.refused(TooMany, most, shortest_sure, PART, LET, Slack(0, 0))
                else:
                    self.assertEqual(shortest_sure(PART, LET, Slack(0, 0)), PLAN)

    def test_errors_in_order(self):
        for call in CALLS:
            self.refused(BadRound, 13, call, PART, Let(13, {"start": [("squeeze", 0, "start")]}), None)
            self.refused(BadWord, "squeeze", call, PART, Let(12, {"start": [], "a": [("squeeze", 0, "a")]}), None)
            self.refused(BadWord, "push", call, Part(EVEN), STUCK_LET, None)
            for room in [-1, 13, HUGE, -HUGE] + NOT_INTEGERS:
                self.refused(BadSlack, room, call, PART, LET, room)
                self.refused(BadSlack, room, call, STILL, Let(2, {"start": []}), room)
            for room in (0, 12):
                try:
                    call(PART, LET, room)
                except NoPlan:
                    pass

    def test_nothing_is_changed(self):
        part, slack = BOTH.copy(), Slack(0, 0)
        calls = (least_sure, shortest_sure, sure_paper, never_sure)
        first = [call(part, LET, slack, 5) for call in calls]
        self.assertEqual(first[:2], [2, PLAN])
        sure_paper(part, LET, slack, 5).clear()
        never_sure(part, STUCK_LET, slack, 0).clear()
        left_after(part, slack, PLAN).clear()
        told = sure_paper(part, LET, slack, 5)
        kept = copy.deepcopy(told)
        is_sure_paper(part, LET, slack, 5, 2, told)
        is_never_sure(part, LET, slack, 5, list(told))
        self.assertEqual([call(part, LET, slack, 5) for call in calls], first)
        self.assertEqual([part, told, slack], [BOTH, kept, Slack(0, 0)])

    def test_a_part_with_other_turnings(self):
        part = PART.copy()
        slack = Slack(0, 1)
        first = [left_after(part, slack, PLAN), sure(part, slack, PLAN, 5), sure_paper(part, LET, slack, 6)]
        part["push"] = Turning(12, [(0, 1)])
        self.assertEqual([left_after(part, slack, PLAN), sure(part, slack, PLAN, 0), sure_paper(part, LET, slack, 6)],
                         [[4], True, {}])
        part["push"] = ODD
        self.assertEqual([left_after(part, slack, PLAN), sure(part, slack, PLAN, 5), sure_paper(part, LET, slack, 6)], first)


class Papers(Case):

    def test_the_returned_one(self):
        found = 0
        for part, let, slack, room in samples(48) + samples(49):
            slow = SlowSure(part, let, slack, room)
            least = least_sure(part, let, slack, room)
            if least is None:
                continue
            told = sure_paper(part, let, slack, room)
            self.assertEqual(told, slow_paper(slow, least))
            self.assertEqual(list(told), sorted(told))
            self.assertIs(is_sure_paper(part, let, slack, room, least, told), True)
            self.assertIs(is_sure_paper(part, let, slack, room, least + 1, told), False)
            found += len(told) > 1
        self.assertGreater(found, 5)

    def test_spoilt_ones(self):
        chance = random.Random(50)
        good = bad = 0
        for part, let, slack, room in samples(51):
            least = least_sure(part, let, slack, room)
            if least is None:
                continue
            slow = SlowSure(part, let, slack, room)
            nodes = come_to(SlowRows([part], let, slack.rest + slack.border))
            slow.all_nodes = lambda rows=nodes: rows
            for thing in spoilt_papers(chance, sure_paper(part, let, slack, room), nodes):
                for length in (least, least - 1, least + 1):
                    told = judged_paper(slow, length, thing)
                    self.assertIs(is_sure_paper(part, let, slack, room, length, thing), told, (thing, length))
                    good += told
                    bad += not told
        self.assertGreater(good, 100)
        self.assertGreater(bad, 1000)

    def test_lengths_and_strange_things(self):
        told = sure_paper(PART, LET, Slack(0, 0))
        self.assertIs(is_sure_paper(part=PART, let=LET, slack=Slack(0, 0), room=0, length=2, thing=told), True)
        for length in [-1, 0, 3, HUGE, -HUGE] + NOT_INTEGERS + [2.0, "2"]:
            self.assertIs(is_sure_paper(PART, LET, Slack(0, 0), 0, length, told), False)
        for thing in NOT_INTEGERS + [0, list(told), tuple(told.items())]:
            self.assertIs(is_sure_paper(PART, LET, Slack(0, 0), 0, 2, thing), False)
        for number in NOT_INTEGERS + [-1, 0, 3]:
            self.assertIs(is_sure_paper(PART, LET, Slack(0, 0), 0, 2, {key: number for key in told}), False)


class Never(Case):

    def test_the_returned_one(self):
        found = 0
        for part, let, slack, room in samples(52) + samples(53):
            told = never_sure(part, let, slack, room)
            self.assertIs(told is None, least_sure(part, let, slack, room) is not None)
            if told is not None:
                self.assertEqual(told, come_to(SlowRows([part], let, slack.rest + slack.border)))
                self.assertIs(is_never_sure(part, let, slack, room, told), True)
                found += len(told) > 1
        self.assertGreater(found, 5)

    def test_spoilt_ones(self):
        chance = random.Random(54)
        good = bad = 0
        for part, let, slack, room in samples(55):
            slow = SlowSure(part, let, slack, room)
            nodes = come_to(SlowRows([part], let, slack.rest + slack.border))
            slow.all_nodes = lambda rows=nodes: rows
            for thing in spoilt_lists(chance, never_sure(part, let, slack, room) or nodes, nodes):
                told = judged_stuck(slow, thing)
                self.assertIs(is_never_sure(part, let, slack, room, thing), told, thing)
                good += told
                bad += not told
        self.assertGreater(good, 30)
        self.assertGreater(bad, 500)

    def test_strange_things(self):
        told = never_sure(PART, STUCK_LET, Slack(0, 0))
        self.assertIs(is_never_sure(part=PART, let=STUCK_LET, slack=Slack(0, 0), room=0, thing=told), True)
        for thing in NOT_INTEGERS + [0, HUGE, tuple(told), {told[0]: 0}]:
            self.assertIs(is_never_sure(PART, STUCK_LET, Slack(0, 0), 0, thing), False)
        for item in NOT_INTEGERS + [told[0], list(told[0]), told[0] + (0,)]:
            self.assertIs(is_never_sure(PART, STUCK_LET, Slack(0, 0), 0, told + [item]), False)
        # Two rests that the room takes in make an end.
        self.assertIs(is_never_sure(PART, STUCK_LET, Slack(0, 0), 5, told), True)
        self.assertIs(is_never_sure(PART, STUCK_LET, Slack(0, 0), 6, told), False)
        self.assertIs(is_never_sure(PART, Let(12, {"start": []}), Slack(0, 0), 0, []), True)
