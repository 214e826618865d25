"""Points 34 to 37, and points 2 to 7 as far as they speak of feeders."""

import copy
import random

from jawturns.errors import BadPlan, BadRound, BadStanding, BadTurn, BadWord, NothingDone
from jawturns.feeder import Feeder
from jawturns.parts import Part
from jawturns.plans import Plan, after
from jawturns.turnings import Turning
from tests.helpers import FAR, HUGE, NOT_INTEGERS, NOT_ROWS, NOT_WORDS, Case
from tests.samples import EVEN, ODD, STILL, random_part

BOTH = Part(EVEN, ODD, [3] * 12)


def state(feeder):
    """All that is seen of a feeder."""
    return [feeder.standings, feeder.plan, len(feeder), feeder.is_right()]


def whole_past(feeder):
    """What a feeder shows, and what it shows behind each undo until there is nothing to take back."""
    feeder = copy.deepcopy(feeder)
    shown = [state(feeder)]
    while True:
        try:
            feeder.undo()
        except NothingDone:
            return shown
        shown.append(state(feeder))


class FeederCase(Case):

    def feeder_refuses(self, error, value, feeder, call, *given):
        """The call is refused and the feeder is as before, down to all that undo takes back."""
        before = whole_past(feeder)
        self.refused(error, value, call, *given)
        self.assertEqual(whole_past(feeder), before)


class Beginning(FeederCase):

    def test_example_of_the_interface(self):
        feeder = Feeder(Part(Turning(12, [(0, 1), (4, 5), (6, 7), (10, 11)])))
        first = feeder.squeeze(0)
        tried = feeder.trying([("squeeze", 3), ("squeeze", 1)])
        self.assertEqual([first, tried, feeder.standings, len(feeder.plan)], [4, [4, 2], [1, 5, 7, 11], 1])

    def test_all_places_or_the_given_ones(self):
        self.assertEqual(state(Feeder(BOTH)), [list(range(12)), Plan(12, []), 12, False])
        self.assertEqual(state(Feeder(BOTH, None)), state(Feeder(part=BOTH, standings=None)))
        self.assertEqual(state(Feeder(BOTH, (7, 3, 7, 11))), [[3, 7, 11], Plan(12, []), 3, False])
        self.assertEqual(state(Feeder(BOTH, [5])), [[5], Plan(12, []), 1, True])

    def test_rows_of_standings(self):
        for row in NOT_ROWS + [[], ()]:
            if row is not None:
                self.refused(BadStanding, -1, Feeder, BOTH, row)
        for value in [-1, 12, HUGE, -HUGE] + NOT_INTEGERS:
            self.refused(BadStanding, value, Feeder, BOTH, [value])
            self.refused(BadStanding, value, Feeder, BOTH, (0, 11, value, -5))

    def test_what_is_in_it(self):
        feeder = Feeder(BOTH, [0, 5])
        for x in list(range(-30, 30)) + FAR:
            self.assertIs(x in feeder, x % 12 in (0, 5))
            self.assertIs(x not in feeder, x % 12 not in (0, 5))

    def test_right_is_alike_modulo_the_period(self):
        part = Part(EVEN)
        for row, right in (([1, 7], True), ([7], True), ([1, 5], False), ([0, 1, 7], False), ([4, 10, 4], True)):
            self.assertIs(Feeder(part, row).is_right(), right)
            self.assertIs(Feeder(Part(EVEN, ODD), row).is_right(), len(set(row)) == 1)
        self.assertIs(Feeder(STILL).is_right(), True)

    def test_it_copies_part_and_standings(self):
        part = BOTH.copy()
        row = [0, 5, 8]
        feeder = Feeder(part, row)
        part["push"] = Turning(12, [(0, 0)])
        part["squeeze"] = None
        row.clear()
        self.assertEqual(feeder.standings, [0, 5, 8])
        other = Feeder(BOTH, [0, 5, 8])
        self.assertEqual([feeder.push(3), feeder.squeeze(2)], [other.push(3), other.squeeze(2)])
        self.assertEqual(state(feeder), state(other))
        self.assertEqual(part.words, ["push"])

    def test_returned_lists_belong_to_the_caller(self):
        feeder = Feeder(BOTH)
        feeder.standings.clear()
        feeder.trying([("push", 0)]).append(3)
        self.assertEqual(state(feeder), [list(range(12)), Plan(12, []), 12, False])

    def test_only_read(self):
        for name in ("standings", "plan"):
            with self.assertRaises(AttributeError):
                setattr(Feeder(BOTH), name, None)


class Doing(FeederCase):

    def test_squeeze_and_push(self):
        chance = random.Random(8)
        for around in (2, 4, 12, 60, 360):
            part = random_part(chance, around, ["push", "squeeze"], 12)
            row = [chance.randrange(around) for _ in range(20)]
            feeder = Feeder(part, row)
            deeds = []
            for turn in FAR:
                word = chance.choice(["push", "squeeze"])
                many = feeder.squeeze(turn) if word == "squeeze" else feeder.push(turn=turn)
                deeds.append((word, turn))
                goal = after(part, Plan(around, deeds), row)
                self.assertEqual([many, len(feeder)], [len(goal), len(goal)])
                self.assertEqual(feeder.standings, goal)
                self.assertEqual(feeder.plan, Plan(around, deeds))
                self.assertIs(feeder.is_right(), len({x % part.period for x in goal}) == 1)

    def test_no_such_turning(self):
        push, squeeze = Feeder(Part(push=ODD)), Feeder(Part(EVEN))
        for turn in [0, 5] + NOT_INTEGERS:
            self.feeder_refuses(BadWord, "squeeze", push, push.squeeze, turn)
            self.feeder_refuses(BadWord, "push", squeeze, squeeze.push, turn)

    def test_strange_turns(self):
        feeder = Feeder(BOTH)
        feeder.push(1)
        for turn in NOT_INTEGERS:
            self.feeder_refuses(BadTurn, turn, feeder, feeder.push, turn)
            self.feeder_refuses(BadTurn, turn, feeder, feeder.squeeze, turn)

    def test_400_deeds_and_one_more(self):
        feeder = Feeder(BOTH)
        for turn in range(200):
            feeder.push(turn)
            feeder.squeeze(turn)
        self.assertEqual(len(feeder.plan), 400)
        self.refused(BadPlan, -1, feeder.push, 0)
        self.refused(BadPlan, -1, feeder.squeeze, 0)
        self.refused(BadTurn, None, feeder.push, None)
        self.assertEqual([len(feeder.plan), feeder.trying([])], [400, []])
        feeder.undo()
        self.assertEqual(len(feeder.plan), 399)
        feeder.push(0)
        self.refused(BadPlan, -1, feeder.push, 0)
        feeder.put(None)
        self.assertEqual([feeder.push(0), len(feeder.plan)], [Feeder(BOTH).push(0), 1])

    def test_a_plan_as_one_step(self):
        feeder = kept = Feeder(BOTH)
        feeder += Plan(12, [("push", 1), ("squeeze", 2)])
        self.assertIs(feeder, kept)
        feeder += Plan(12, [])
        self.assertEqual(feeder.plan, Plan(12, [("push", 1), ("squeeze", 2)]))
        self.assertEqual(feeder.standings, after(BOTH, feeder.plan))
        feeder += Plan(12, [("push", 4)])
        self.assertEqual(feeder.plan, Plan(12, [("push", 1), ("squeeze", 2), ("push", 4)]))
        self.assertEqual(feeder.standings, after(BOTH, feeder.plan))
        # The empty plan is a step, too, that is taken back by itself.
        shown = whole_past(feeder)
        self.assertEqual([len(past[1]) for past in shown], [3, 2, 2, 0])
        self.assertIs(feeder, kept)

    def test_plans_that_are_refused(self):
        def add(feeder, plan):
            feeder += plan

        feeder = Feeder(Part(push=ODD), [1, 2])
        feeder += Plan(12, [("push", 1)] * 399)
        self.feeder_refuses(BadRound, 13, feeder, add, feeder, Plan(13, [("squeeze", 0)] * 9))
        self.feeder_refuses(BadRound, 13, feeder, add, feeder, Plan(13, []))
        self.feeder_refuses(BadWord, "squeeze", feeder, add, feeder, Plan(12, [("push", 0)] * 9 + [("squeeze", 0)]))
        self.feeder_refuses(BadPlan, -1, feeder, add, feeder, Plan(12, [("push", 0)] * 2))
        feeder += Plan(12, [("push", 2)])
        self.feeder_refuses(BadPlan, -1, feeder, add, feeder, Plan(12, [("push", 0)]))
        self.feeder_refuses(BadWord, "squeeze", feeder, add, feeder, Plan(12, [("squeeze", 0)]))
        feeder += Plan(12, [])
        self.assertEqual([len(feeder.plan), len(whole_past(feeder))], [400, 4])


class TakingBack(FeederCase):

    def test_put(self):
        feeder = Feeder(BOTH)
        feeder.push(3)
        self.assertIsNone(feeder.put((5, 1, 5)))
        self.assertEqual(state(feeder), [[1, 5], Plan(12, []), 2, False])
        feeder.squeeze(1)
        self.assertIsNone(feeder.put(standings=None))
        self.assertEqual(state(feeder), [list(range(12)), Plan(12, []), 12, False])
        row = [0]
        feeder.put(row)
        row.append(5)
        self.assertEqual(feeder.standings, [0])

    def test_put_refuses(self):
        feeder = Feeder(BOTH, [3])
        feeder.push(3)
        for row in NOT_ROWS + [[], ()]:
            if row is not None:
                self.feeder_refuses(BadStanding, -1, feeder, feeder.put, row)
        for value in [-1, 12, HUGE, -HUGE] + NOT_INTEGERS:
            self.feeder_refuses(BadStanding, value, feeder, feeder.put, [0, value, 99])

    def test_undo_step_by_step(self):
        feeder = Feeder(BOTH, [2, 9])
        shown = [state(feeder)]
        for step in (lambda: feeder.push(4), lambda: feeder.squeeze(-7), lambda: feeder.put([4]),
                     lambda: feeder.push(1), lambda: feeder.put(None), lambda: feeder.put(None),
                     lambda: feeder.squeeze(HUGE)):
            step()
            shown.append(state(feeder))
        feeder += Plan(12, [("push", 1), ("push", 2)])
        while shown:
            self.assertIsNone(feeder.undo())
            self.assertEqual(state(feeder), shown.pop())
        self.fails(NothingDone, feeder.undo)
        self.assertEqual(state(feeder), [[2, 9], Plan(12, []), 2, False])

    def test_refused_calls_are_no_steps(self):
        feeder = Feeder(Part(push=ODD))
        self.fails(NothingDone, feeder.undo)
        feeder.push(3)
        before = state(feeder)
        feeder.push(4)
        for call, given in ((feeder.squeeze, 0), (feeder.push, None), (feeder.put, []), (feeder.put, [12]),
                            (feeder.trying, [("push", 0), ("pull", 0)])):
            with self.assertRaises(ValueError):
                call(given)
        feeder.undo()
        self.assertEqual(state(feeder), before)
        feeder.undo()
        self.fails(NothingDone, feeder.undo)

    def test_by_chance(self):
        chance = random.Random(9)
        for part in (BOTH, random_part(chance, 6, ["push", "squeeze"]), random_part(chance, 360, ["push", "squeeze"], 12)):
            feeder = Feeder(part)
            past = [(list(range(part.around)), [])]
            for _ in range(300):
                standings, deeds = past[-1]
                act = chance.choice(["push", "squeeze", "put", "plan", "undo", "undo", "try"])
                turn = chance.randrange(-500, 500)
                if act in ("push", "squeeze"):
                    getattr(feeder, act)(turn)
                    deed = (act, turn % part.around)
                    past.append((sorted({part.settled(x, deed) for x in standings}), deeds + [deed]))
                elif act == "put":
                    row = [chance.randrange(part.around) for _ in range(4)]
                    feeder.put(row)
                    past.append((sorted(set(row)), []))
                elif act == "plan":
                    plan = Plan(part.around, [("push", turn), ("squeeze", -turn)][:chance.randrange(3)])
                    feeder += plan
                    past.append((after(part, plan, standings), deeds + list(plan)))
                elif act == "undo" and len(past) > 1:
                    feeder.undo()
                    past.pop()
                else:
                    feeder.trying([("push", turn), ("squeeze", turn)])
                self.assertEqual([feeder.standings, list(feeder.plan)], [past[-1][0], past[-1][1]])


class Trying(FeederCase):

    def test_as_the_deeds_would_do(self):
        chance = random.Random(10)
        for part in (BOTH, random_part(chance, 360, ["push", "squeeze"], 12)):
            feeder = Feeder(part)
            feeder.push(1)
            deeds = [(chance.choice(["push", "squeeze"]), turn) for turn in FAR]
            for row in ([], (), deeds, tuple(deeds)):
                before = whole_past(feeder)
                tried = feeder.trying(row)
                self.assertEqual(whole_past(feeder), before)
                other = copy.deepcopy(feeder)
                self.assertEqual(tried, [getattr(other, word)(turn) for word, turn in row])
                self.assertIs(type(tried), list)

    def test_the_first_refused_deed(self):
        feeder = Feeder(Part(push=ODD))
        feeder.push(1)
        for word in ["squeeze", "pull"] + NOT_WORDS:
            self.feeder_refuses(BadWord, word, feeder, feeder.trying, [("push", 0), (word, None), ("push", None)])
        for turn in NOT_INTEGERS:
            self.feeder_refuses(BadTurn, turn, feeder, feeder.trying, (("push", 0), ("push", turn), ("pull", 0)))

    def test_400_deeds_and_one_more(self):
        feeder = Feeder(BOTH)
        feeder += Plan(12, [("push", 1)] * 398)
        self.assertEqual(len(feeder.trying([("push", 0), ("squeeze", 0)])), 2)
        deeds = [("push", 0), ("squeeze", 0)]
        self.feeder_refuses(BadPlan, -1, feeder, feeder.trying, deeds + [("push", 0)])
        self.feeder_refuses(BadTurn, None, feeder, feeder.trying, deeds + [("push", None)])
        self.feeder_refuses(BadWord, "pull", feeder, feeder.trying, deeds + [("pull", None)])
        self.feeder_refuses(BadPlan, -1, feeder, feeder.trying, deeds + [("push", 0), ("pull", None)])
        self.assertEqual(len(Feeder(BOTH).trying([("push", k) for k in range(400)])), 400)
        empty = Feeder(BOTH)
        self.feeder_refuses(BadPlan, -1, empty, empty.trying, [("push", k) for k in range(401)])
