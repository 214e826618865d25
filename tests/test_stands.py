"""Points 40 to 49 as far as they speak of stands, and points 2 to 7."""

import random

from jawturns.errors import BadPlan, BadRound, BadStanding, BadWord
from jawturns.machines import Let
from jawturns.parts import Part
from jawturns.plans import Plan, carried, does
from jawturns.stands import first_stands, moves, next_stand, stands_after
from jawturns.turnings import Turning
from tests.helpers import DEEP, FAR, HUGE, NOT_DEEDS, NOT_INTEGERS, NOT_WORDS, Case
from tests.samples import EVEN, ODD, STILL, lets_for, random_let, random_part, small_parts
from tests.slow import SlowPart, come_to

EXAMPLE = Part(push=Turning(12, [(0, 2), (5, 8)]))
BOTH = Part(EVEN, ODD)
LET = Let(12, {"start": [("push", 0, "start"), ("squeeze", 3, "back")], "back": [("push", 15, "start")], "odd": []})
SQUEEZES = Let(12, {"start": [("squeeze", 0, "start")]})


def near_stands(stand):
    """Values that are nearly this stand of a part with the words push and squeeze, and are none."""
    state, word, i, j = stand
    return [list(stand), stand + (0,), stand[:3], (stand,), [stand], (state, [word], i, j), (state, word, (i, j)),
            (state, word, float(i), j), (state, word, i, float(j)), (state, word, str(i), j), (state, word, None, j),
            (state, word, i, None), (state, word, [i], j), (state, word, i, (j,)), (state, word, -1, j),
            (state, word, i, i - 1), (state, word, HUGE, HUGE), (state, word, i, HUGE), (state, word, -HUGE, j),
            (word, state, i, j), (state, word, i, j, None), (None, word, i, j), (state + "x", word, i, j),
            ([state], word, i, j), (True, word, i, j), (0, word, i, j), ((state,), word, i, j), ({}, word, i, j),
            (state, "pull", i, j), (state, None, i, j), (state, {}, i, j), (state, (word,), i, j), (state, "", i, j),
            (state, word, True, j), (state, word, i, True), (state, word, False, j), (state, word, i, False)]


STRANGE = NOT_INTEGERS + NOT_WORDS + [("", "push"), "stand", 0, 3, HUGE, {("", "push", 0, 1): 0}, [("", "push", 0, 1)]]


class First(Case):

    def test_example_of_the_interface(self):
        self.assertEqual(first_stands(EXAMPLE), [("", "push", 0, 1), ("", "push", 1, 2)])

    def test_told_ones(self):
        self.assertEqual(first_stands(part=Part(EVEN), let=None), [("", "squeeze", 0, 1), ("", "squeeze", 1, 2)])
        # With both words the period is that of the round, and the squeeze has four rests.
        told = [("", "push", 0, 1), ("", "push", 1, 2)] + [("", "squeeze", k, k + 3) for k in range(4)]
        self.assertEqual(first_stands(BOTH), told)
        let = Let(12, {"start": [("push", 0, "b"), ("push", 1, "b"), ("push", 2, "a")], "a": [("squeeze", 0, "a")],
                       "b": []})
        self.assertEqual(first_stands(BOTH, let), [("a", "push", 0, 1), ("a", "push", 1, 2), ("b", "push", 0, 1),
                                                   ("b", "push", 1, 2)])
        self.assertEqual(first_stands(BOTH, Let(12, {"start": []})), [])

    def test_one_rest_is_closed_at_once(self):
        for around in (2, 12, 360):
            part = Part(push=Turning(around, [(0, 1)]))
            self.assertEqual(first_stands(part), [("", "push", 0, 0)])
            self.assertEqual(first_stands(part, Let.steps(around, ["push"], 1, 5)), [("start", "push", 0, 0)])
        self.assertEqual(first_stands(STILL), [("", "push", 0, 0)])

    def test_by_definition(self):
        for part in small_parts():
            self.assertEqual(first_stands(part), SlowPart(part).firsts())
            for let in lets_for(part):
                self.assertEqual(first_stands(part, let), SlowPart(part, let).firsts())

    def test_it_belongs_to_the_caller(self):
        first_stands(EXAMPLE).clear()
        moves(EXAMPLE, ("", "push", 0, 1)).clear()
        stands_after(EXAMPLE, Plan(12, [("push", 0)])).clear()
        self.assertEqual([len(first_stands(EXAMPLE)), len(moves(EXAMPLE, ("", "push", 0, 1))),
                          len(stands_after(EXAMPLE, Plan(12, [("push", 0)])))], [2, 12, 2])


class Moving(Case):

    def test_examples_of_the_interface(self):
        self.assertEqual(next_stand(EXAMPLE, ("", "push", 0, 1), ("push", 9)), ("", "push", 1, 1))
        self.assertIsNone(next_stand(EXAMPLE, ("", "push", 0, 1), ("push", 3)))

    def test_all_stands_by_definition(self):
        lost = 0
        for part in small_parts():
            for let in [None] + lets_for(part):
                slow = SlowPart(part, let)
                for stand in slow.all_nodes():
                    told = slow.moves(stand)
                    self.assertEqual(moves(part, stand, let), told)
                    self.assertEqual(moves(part, stand, let), sorted(told, key=lambda move: move[:2]))
                    for word, turn, goal in told:
                        self.assertEqual(next_stand(part, stand, (word, turn), let), goal)
                        lost += goal is None
        self.assertGreater(lost, 100)

    def test_large_rounds(self):
        chance = random.Random(14)
        for words in (["push"], ["squeeze"], ["push", "squeeze"]):
            part = random_part(chance, 360, words, 12)
            for let in (None, random_let(chance, 360, words, 5, 40)):
                slow = SlowPart(part, let)
                nodes = slow.all_nodes()
                for stand in chance.sample(nodes, min(8, len(nodes))):
                    self.assertEqual(moves(part, stand, let), slow.moves(stand))

    def test_what_a_step_does_to_the_ends(self):
        chance = random.Random(15)
        part = random_part(chance, 60, ["push", "squeeze"], 6)
        slow = SlowPart(part)
        for stand in slow.all_nodes():
            word, i, j = stand[1:]
            for turn in range(0, 60, 7):
                low = carried(part, Plan(60, [("push", turn)]), slow.words[word].rest(i))
                high = carried(part, Plan(60, [("push", turn)]), slow.words[word].rest(j))
                goal = next_stand(part, stand, ("push", turn))
                self.assertEqual(goal is None, high - low == slow.span)
                if goal is not None:
                    other = slow.words["push"]
                    self.assertEqual(other.rest(goal[3]) - other.rest(goal[2]), high - low)
                    self.assertEqual((other.rest(goal[2]) + turn - low) % slow.span, 0)
                    self.assertIn(goal[2], range(other.m))

    def test_turns_of_a_step(self):
        for turn in FAR:
            for stand in (("", "squeeze", 0, 1), ("", "squeeze", 1, 1)):
                self.assertEqual(next_stand(Part(EVEN), stand, ("squeeze", turn)),
                                 next_stand(Part(EVEN), stand, ("squeeze", turn % 6)))
        # With a machine the turn is taken modulo the round, not modulo the period.
        let = Let(12, {"start": [("squeeze", 7, "start")]})
        goal = next_stand(Part(EVEN), ("start", "squeeze", 0, 1), ("squeeze", 7), let)
        for turn in (7, 19, -5, 7 + 12 * HUGE, 7 - 12 * HUGE):
            self.assertEqual(next_stand(Part(EVEN), ("start", "squeeze", 0, 1), ("squeeze", turn), let), goal)
        for turn in (1, 13, 6, -11):
            self.refused(BadPlan, 0, next_stand, Part(EVEN), ("start", "squeeze", 0, 1), ("squeeze", turn), let)

    def test_closed_stands_stay_closed(self):
        for part in small_parts():
            for stand in SlowPart(part).all_nodes():
                if stand[2] == stand[3]:
                    for _, _, goal in moves(part, stand):
                        self.assertEqual(goal[2], goal[3])
        self.assertEqual(moves(EXAMPLE, ("back", "push", 0, 0), Let(12, {"start": [("push", 0, "back")], "back": []})), [])

    def test_states_of_a_machine(self):
        self.assertEqual(moves(BOTH, ("start", "push", 0, 0), LET),
                         [("push", 0, ("start", "push", 0, 0)), ("squeeze", 3, ("back", "squeeze", 3, 3))])
        self.assertEqual([move[:2] for move in moves(BOTH, ("back", "squeeze", 3, 3), LET)], [("push", 3)])
        # Also from a state that the machine never comes to.
        self.assertEqual(moves(BOTH, ("odd", "push", 0, 1), LET), [])


class Refusing(Case):

    def test_strange_stands(self):
        for let, stand in ((None, ("", "push", 0, 1)), (LET, ("start", "push", 1, 2)), (None, ("", "squeeze", 0, 3))):
            self.assertIsInstance(moves(BOTH, stand, let), list)
            for value in STRANGE + near_stands(stand):
                self.refused(BadStanding, value, moves, BOTH, value, let)
                self.refused(BadStanding, value, next_stand, BOTH, value, ("push", 0), let)
                self.refused(BadStanding, value, next_stand, BOTH, value, None, let)

    def test_bounds_of_a_stand(self):
        slow = SlowPart(BOTH, LET)
        for state in ("back", "odd", "start", "", "other"):
            for word in ("push", "squeeze"):
                for i in range(-2, 6):
                    for j in range(-2, 10):
                        stand = (state, word, i, j)
                        if stand in slow.all_nodes():
                            self.assertEqual(moves(BOTH, stand, LET), slow.moves(stand))
                        else:
                            self.refused(BadStanding, stand, moves, BOTH, stand, LET)
        self.refused(BadStanding, ("", "squeeze", 0, 0), moves, EXAMPLE, ("", "squeeze", 0, 0))
        self.refused(BadStanding, ("start", "push", 0, 0), moves, EXAMPLE, ("start", "push", 0, 0))

    def test_no_such_step(self):
        for let, stand in ((None, ("", "push", 0, 1)), (LET, ("start", "push", 1, 2))):
            for step in NOT_DEEDS:
                self.refused(BadPlan, 0, next_stand, BOTH, stand, step, let)
        self.refused(BadPlan, 0, next_stand, EXAMPLE, ("", "push", 0, 1), ("squeeze", 0))
        for step in (("push", 3), ("squeeze", 0), ("push", 1), ("squeeze", HUGE)):
            self.refused(BadPlan, 0, next_stand, BOTH, ("start", "push", 0, 1), step, LET)
        for step in (("push", 0), ("squeeze", 3)):
            self.refused(BadPlan, 0, next_stand, BOTH, ("back", "push", 0, 1), step, LET)
            self.refused(BadPlan, 0, next_stand, BOTH, ("odd", "push", 0, 1), step, LET)

    def test_the_machine_is_checked_first(self):
        for call in (lambda let: first_stands(EXAMPLE, let), lambda let: moves(EXAMPLE, None, let),
                     lambda let: next_stand(EXAMPLE, None, None, let),
                     lambda let: stands_after(EXAMPLE, Plan(14, [("squeeze", 0)]), let)):
            self.refused(BadRound, 13, call, Let(13, {"start": [("squeeze", 0, "start")]}))
            self.refused(BadWord, "squeeze", call, SQUEEZES)
            self.refused(BadWord, "squeeze", call, Let(12, {"start": [], "a": [("squeeze", 0, "a")]}))
        self.refused(BadWord, "push", first_stands, Part(EVEN), LET)

    def test_nothing_is_changed(self):
        part = BOTH.copy()
        for _ in range(2):
            self.assertEqual(len(moves(part, ("start", "push", 0, 1), LET)), 2)
            self.assertEqual(len(stands_after(part, Plan(12, [("push", 0)]), LET)), 2)
        self.assertEqual(part, BOTH)
        self.assertEqual(LET.rules("start"), [("push", 0, "start"), ("squeeze", 3, "back")])


class Behind(Case):

    def test_example_of_the_interface(self):
        self.assertEqual(stands_after(EXAMPLE, Plan(12, [("push", 0), ("push", 3)])), [None, ("", "push", 1, 1)])

    def test_the_empty_plan(self):
        for part in (EXAMPLE, BOTH, STILL):
            self.assertEqual(stands_after(part, Plan(part.around, [])), [])
        self.assertEqual(stands_after(EXAMPLE, Plan(12, []), Let(12, {"start": []})), [])

    def test_deed_by_deed(self):
        chance = random.Random(16)
        for part in small_parts() + [random_part(chance, 360, ["push", "squeeze"], 12)]:
            for _ in range(6):
                deeds = [(chance.choice(part.words), chance.randrange(part.around)) for _ in range(5)]
                slow = SlowPart(part)
                stands = [None]
                for k, (word, turn) in enumerate(deeds):
                    if k == 0:
                        m = slow.words[word].m
                        stands = [("", word, i, i + m - 1) for i in range(m)]
                    else:
                        step = (word, (turn - deeds[k - 1][1]) % slow.span, "")
                        stands = [None if stand is None else slow.next(stand, step) for stand in stands]
                    plan = Plan(part.around, deeds[:k + 1])
                    self.assertEqual(stands_after(part, plan), stands)
                    # A plan does exactly if one of its cuts is closed behind it.
                    closed = any(stand is not None and stand[2] == stand[3] for stand in stands)
                    self.assertIs(does(part, plan), closed)

    def test_what_a_machine_lets(self):
        let = Let(12, {"start": [("push", 5, "back")], "back": [("squeeze", 1, "back"), ("push", 2, "start")]})
        deeds = [("push", 5), ("squeeze", 6), ("push", 8), ("push", 1)]
        self.assertEqual(len(stands_after(BOTH, Plan(12, deeds), let)), 2)
        self.assertEqual(stands_after(BOTH, Plan(12, deeds[:1]), let), [("back", "push", 0, 1), ("back", "push", 1, 2)])
        for k, wrong in ((0, ("push", 0)), (0, ("squeeze", 5)), (1, ("squeeze", 5)), (2, ("push", 7)),
                         (3, ("squeeze", 9)), (3, ("push", 10))):
            plan = Plan(12, deeds[:k] + [wrong] + deeds[k:])
            self.refused(BadPlan, k, stands_after, BOTH, plan, let)
            self.refused(BadPlan, k, stands_after, BOTH, plan[:k + 1], let)
        self.refused(BadPlan, 0, stands_after, BOTH, Plan(12, deeds), Let(12, {"start": []}))

    def test_checks_of_a_plan(self):
        for let in (None, Let(12, {"start": []})):
            self.refused(BadRound, 13, stands_after, EXAMPLE, Plan(13, [("squeeze", 0)]), let)
            self.refused(BadRound, 13, stands_after, EXAMPLE, Plan(13, []), let)
            self.refused(BadWord, "squeeze", stands_after, EXAMPLE, Plan(12, [("push", 0), ("squeeze", 0)]), let)

    def test_all_of_400_deeds(self):
        chance = random.Random(17)
        part = random_part(chance, 360, ["push", "squeeze"], 12)
        plan = Plan(360, [(chance.choice(part.words), k * 7) for k in range(400)])
        stands = stands_after(part, plan)
        self.assertEqual(any(stand is not None and stand[2] == stand[3] for stand in stands), does(part, plan))


class ComeTo(Case):

    def test_samples_have_stands_of_all_sorts(self):
        found = {True: 0, False: 0}
        for part in small_parts():
            for let in lets_for(part):
                for stand in come_to(SlowPart(part, let)):
                    found[stand[2] == stand[3]] += 1
        self.assertGreater(min(found.values()), 50)

    def test_strange_values_are_nested_forty_deep(self):
        for value in DEEP:
            self.refused(BadStanding, value, moves, EXAMPLE, value)
            self.refused(BadStanding, (value, "push", 0, 1), moves, EXAMPLE, (value, "push", 0, 1))
