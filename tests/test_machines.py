"""Points 28 to 33, and points 2 to 7 as far as they speak of machines."""

import itertools
import random

from jawturns.errors import BadMachine, BadPlan, BadRound, BadTurn, BadWord
from jawturns.machines import Let, check_let
from jawturns.parts import Part
from jawturns.plans import Plan
from tests.helpers import (DEEP, FAR, HUGE, NOT_INTEGERS, NOT_NAMES, NOT_ROWS, NOT_WORDS, Case)
from tests.samples import EVEN, ODD, random_let
from tests.slow import let_plans

RULES = {"start": [("squeeze", 18, "back"), ("push", -12, "start"), ("push", 5, "back")],
         "back": (("push", HUGE, "start"),), "idle": []}
NOT_RULES = [None, True, 3, 2.5, "", "push", [], ["push", 0, "start"], (), ("push", 0), ("push", 0, "start", 0),
             {}, {"push": 0}, ("pull", 0, "start"), (None, 0, "start"), (["push"], 0, "start"),
             ({}, 0, "start"), ("push", None, "start"), ("push", True, "start"), ("push", 1.0, "start"),
             ("push", "0", "start"), ("push", [0], "start"), ("push", 0, "other"), ("push", 0, None),
             ("push", 0, ["start"]), ("push", 0, {}), ("push", 0, ("start",)), ("push", 0, 0),
             (("push", 0, "start"),), ("start", 0, "push")] + DEEP
ROUNDS = (2, 12, 360)


class Making(Case):

    def test_turns_are_taken_modulo_the_round(self):
        let = Let(12, RULES)
        self.assertEqual(let.around, 12)
        self.assertEqual(let.rules("start"), [("push", 0, "start"), ("push", 5, "back"), ("squeeze", 6, "back")])
        self.assertEqual(let.rules("back"), [("push", HUGE % 12, "start")])
        self.assertEqual(let.rules("idle"), [])
        for around in ROUNDS:
            for turn in FAR:
                one = Let(around, {"start": [("push", turn, "start")]})
                self.assertEqual(one.rules("start"), [("push", turn % around, "start")])

    def test_states_and_words_ascend(self):
        self.assertEqual([Let(12, RULES).states, Let(12, RULES).words], [["back", "idle", "start"], ["push", "squeeze"]])
        self.assertEqual(Let(12, {"start": []}).words, [])
        self.assertEqual(Let(12, {"start": [], "b": [("push", 0, "b")]}).words, ["push"])
        names = {"start": [], "z": [], "abcdefghijkl": [], "ab": [], "b": []}
        self.assertEqual(Let(12, names).states, ["ab", "abcdefghijkl", "b", "start", "z"])

    def test_arguments_by_name(self):
        self.assertEqual(Let(rules=RULES, around=12), Let(12, RULES))
        self.assertEqual(Let.steps(around=12, words=["push"], step=2, count=3), Let.steps(12, ["push"], 2, 3))
        self.assertEqual(Let.fences(around=12, word="push", left=[1], right=[2]), Let.fences(12, "push", [1], [2]))

    def test_rounds(self):
        for around in (2, 360):
            self.assertEqual(Let(around, {"start": []}).around, around)
        for around in [1, 0, -1, 361, HUGE, -HUGE] + NOT_INTEGERS:
            for rules in ({"start": []}, None, {}, {"start": None}):
                self.refused(BadRound, around, Let, around, rules)

    def test_what_is_no_dict_of_names(self):
        for rules in [None, True, 0, 2.5, "", "start", [], (), [("start", [])], DEEP[0], DEEP[1]]:
            self.refused(BadMachine, "", Let, 12, rules)
        self.refused(BadMachine, "", Let, 12, {})
        six = {name: [] for name in ("start", "a", "b", "c", "d", "e")}
        self.refused(BadMachine, "", Let, 12, six)
        self.refused(BadMachine, "", Let, 12, {name: None for name in ("a", "b", "c", "d", "e", "f")})
        del six["e"]
        self.assertEqual(len(Let(12, six).states), 5)
        for name in NOT_NAMES:
            self.refused(BadMachine, "", Let, 12, {name: []})
            self.refused(BadMachine, "", Let, 12, {"start": None, name: []})

    def test_start_is_a_state(self):
        for rules in ({"a": []}, {"a": None}, {"starts": [], "star": [3]}):
            self.refused(BadMachine, "start", Let, 12, rules)

    def test_rows_of_rules(self):
        for rules in NOT_ROWS:
            self.refused(BadMachine, "start", Let, 12, {"start": rules})
        for rule in NOT_RULES:
            for rules in ([rule], (rule,), [("push", 7, "start"), rule], [rule, None]):
                self.refused(BadMachine, "start", Let, 12, {"start": rules})

    def test_forty_rules_and_one_more(self):
        rules = [("push", turn, "start") for turn in range(40)]
        self.assertEqual(Let(360, {"start": rules}).rules("start"), rules)
        self.assertEqual(Let(360, {"start": tuple(rules[::-1])}).rules("start"), rules)
        self.refused(BadMachine, "start", Let, 360, {"start": rules + [("push", 40, "start")]})
        self.refused(BadMachine, "b", Let, 360, {"start": rules, "b": [("squeeze", k, "b") for k in range(41)]})

    def test_two_rules_with_the_same_word_and_turn(self):
        for turn in (3, 15, -9, 3 + 12 * HUGE):
            for goal in ("start", "back"):
                rules = {"start": [("push", 3, "start"), ("push", turn, goal)], "back": []}
                self.refused(BadMachine, "start", Let, 12, rules)
        rules = {"start": [("push", 3, "back"), ("squeeze", 3, "back")], "back": [("push", 3, "back")]}
        self.assertEqual(len(Let(12, rules).rules("start")), 2)

    def test_the_first_bad_state_is_told(self):
        for rules in ({"start": 1, "b": 1, "a": [], "c": 1}, {"c": None, "start": None, "b": [("push", 0, "d")]}):
            self.refused(BadMachine, "b", Let, 12, rules)
        self.refused(BadMachine, "start", Let, 12, {"z": 1, "start": [("push", 0, "a")]})

    def test_it_copies_its_rules(self):
        rules = {"start": [("push", 3, "start")], "back": []}
        let = Let(12, rules)
        rules["start"].append(("push", 4, "start"))
        rules["back"].append(None)
        rules["more"] = None
        self.assertEqual(let, Let(12, {"start": [("push", 3, "start")], "back": []}))

    def test_returned_lists_belong_to_the_caller(self):
        let = Let(12, RULES)
        let.states.clear()
        let.words.append("pull")
        let.rules("start").pop()
        self.assertEqual(let, Let(12, RULES))
        self.assertEqual([len(let.states), let.words, len(let.rules("start"))], [3, ["push", "squeeze"], 3])

    def test_rules_of_no_state(self):
        for state in ["star", "START", "other", ""] + NOT_WORDS + NOT_INTEGERS:
            self.refused(BadMachine, state, Let(12, RULES).rules, state)

    def test_equality(self):
        self.assertTrue(Let(12, RULES) == Let(12, {state: RULES[state] for state in sorted(RULES)}))
        self.assertFalse(Let(12, RULES) != Let(12, RULES))
        moved = {state: [(word, turn - 24, goal) for word, turn, goal in RULES[state]][::-1] for state in RULES}
        self.assertEqual(Let(12, RULES), Let(12, moved))
        unlike = [Let(12, {"start": []}), Let(13, {"start": []}), Let(12, {"start": [], "a": []}),
                  Let(12, {"start": [], "b": []}), Let(12, {"start": [("push", 1, "start")]}),
                  Let(12, {"start": [("push", 2, "start")]}), Let(12, {"start": [("squeeze", 1, "start")]}),
                  Let(12, {"start": [("push", 1, "a")], "a": []})]
        for at, one in enumerate(unlike):
            for other in unlike[:at]:
                self.assertTrue(one != other)
                self.assertFalse(one == other)


class Walking(Case):

    def test_examples_of_the_interface(self):
        let = Let.fences(12, "push", [0, 3], [9])
        self.assertEqual(
            [let.states, let.rules("start"), let.state_after(Plan(12, [("push", 3), ("push", 0)])), let.many(3)],
            [["back", "start"], [("push", 0, "back"), ("push", 3, "back")], "start", 4])

    def test_turns_are_told_from_the_last_deed(self):
        let = Let(12, {"start": [("push", 5, "a")], "a": [("push", -3, "b")], "b": [("squeeze", 11, "start")]})
        deeds = [("push", 5), ("push", 2), ("squeeze", 1), ("push", 6)]
        self.assertEqual([let.state_after(Plan(12, deeds[:k])) for k in range(5)], ["start", "a", "b", "start", "a"])
        for k, wrong in ((0, ("push", 4)), (1, ("push", 9)), (2, ("push", 1)), (3, ("push", 5))):
            self.assertIsNone(let.state_after(Plan(12, deeds[:k] + [wrong])))
            self.assertIsNone(let.state_after(Plan(12, deeds[:k] + [wrong] + deeds[k:])))

    def test_all_short_plans_by_definition(self):
        chance = random.Random(4)
        for around, words, states, most in ((2, ["push"], 1, 2), (3, ["push", "squeeze"], 2, 4), (4, ["push"], 5, 3),
                                            (3, ["push", "squeeze"], 5, 3), (5, ["squeeze"], 3, 5)):
            let = random_let(chance, around, words, states, most)
            for length in range(4):
                told = let_plans(let, length)
                self.assertEqual(let.many(length), len(told))
                self.assertEqual(len(set(told)), len(told))
                deeds = itertools.product(("push", "squeeze"), range(around))
                for plan in itertools.product(list(deeds), repeat=length):
                    state = let.state_after(Plan(around, plan))
                    self.assertEqual(state is not None, plan in told)
                    self.assertTrue(state is None or state in let.states)

    def test_the_state_behind_a_plan(self):
        let = Let(360, {"start": [("push", 1, "a"), ("push", 2, "start")], "a": [("push", 1, "start")]})
        for deeds, state in (([1], "a"), ([1, 2], "start"), ([2, 3], "a"), ([2, 4, 6], "start"), ([1, 3], None)):
            self.assertEqual(let.state_after(Plan(360, [("push", turn) for turn in deeds])), state)

    def test_other_rounds(self):
        for plan in (Plan(13, []), Plan(13, [("push", 0)])):
            self.refused(BadRound, 13, Let(12, RULES).state_after, plan)

    def test_lengths(self):
        let = Let.steps(360, ["push", "squeeze"], 9, 20)
        self.assertEqual([let.many(0), let.many(1), let.many(400)], [1, 40, 40 ** 400])
        self.assertEqual([Let(12, {"start": []}).many(k) for k in (0, 1, 400)], [1, 0, 0])
        fences = Let.fences(12, "push", [0, 3], [9])
        self.assertEqual([fences.many(k) for k in (0, 1, 2, 3, 4, 399, 400)], [1, 2, 2, 4, 4, 2 ** 200, 2 ** 200])
        for length in [-1, 401, HUGE, -HUGE] + NOT_INTEGERS:
            self.refused(BadPlan, -1, let.many, length)

    def test_nothing_is_changed(self):
        let = Let(12, RULES)
        plan = Plan(12, [("push", 5), ("push", 0)])
        first = [let.state_after(plan), let.many(5)]
        self.assertEqual([let.state_after(plan), let.many(5)], first)
        self.assertEqual([let, plan], [Let(12, RULES), Plan(12, [("push", 5), ("push", 0)])])


class Steps(Case):

    def test_each_turn_once(self):
        for around in ROUNDS:
            for step in FAR:
                for count in (1, 2, 12, 40):
                    let = Let.steps(around, ["push"], step, count)
                    turns = sorted({k * step % around for k in range(count)})
                    self.assertEqual(let.states, ["start"])
                    self.assertEqual(let.rules("start"), [("push", turn, "start") for turn in turns])
                    self.assertEqual(let.around, around)

    def test_words(self):
        both = Let.steps(12, ("squeeze", "push"), 5, 20)
        self.assertEqual(both, Let.steps(12, ["push", "squeeze"], 5, 20))
        self.assertEqual(both.words, ["push", "squeeze"])
        self.assertEqual(len(both.rules("start")), 24)
        self.assertEqual(Let.steps(12, ("squeeze",), 0, 3).rules("start"), [("squeeze", 0, "start")])

    def test_counts(self):
        self.assertEqual(len(Let.steps(360, ["push"], 1, 40).rules("start")), 40)
        self.assertEqual(len(Let.steps(360, ["push", "squeeze"], 1, 20).rules("start")), 40)
        for count in [0, -1, 41, HUGE] + NOT_INTEGERS:
            self.refused(BadMachine, "start", Let.steps, 360, ["push"], 1, count)
        for count in (21, 40, 41):
            self.refused(BadMachine, "start", Let.steps, 360, ["push", "squeeze"], 1, count)
            # Not even where fewer turns would come, because each is taken once.
            self.refused(BadMachine, "start", Let.steps, 360, ["push", "squeeze"], 0, count)

    def test_strange_arguments_in_order(self):
        for around in [1, 361] + NOT_INTEGERS:
            self.refused(BadRound, around, Let.steps, around, None, None, None)
        words = [["push", "push"], ("squeeze", "squeeze"), ["push", "squeeze", "push"], [], (), ["pull"], "push",
                 ["push", "pull"], ["push", ["push"]], [["push"]]] + NOT_ROWS
        for row in words + [[word] for word in NOT_WORDS]:
            self.refused(BadWord, row, Let.steps, 12, row, None, None)
        for step in NOT_INTEGERS:
            self.refused(BadTurn, step, Let.steps, 12, ["push"], step, None)

    def test_it_is_called_off_a_machine_too(self):
        let = Let(12, RULES)
        self.assertEqual(let.steps(12, ["push"], 1, 2), Let.steps(12, ["push"], 1, 2))


class Fences(Case):

    def test_told_ones(self):
        for around in ROUNDS:
            for left, right in (([0, 1], (-1,)), ((), []), ([around + 1], (1 - around, 0)), ([HUGE], [-HUGE])):
                let = Let.fences(around, "squeeze", left, right)
                self.assertEqual(let.states, ["back", "start"])
                self.assertEqual(let.rules("start"), [("squeeze", x, "back") for x in sorted(k % around for k in left)])
                self.assertEqual(let.rules("back"), [("squeeze", x, "start") for x in sorted(k % around for k in right)])

    def test_strange_arguments_in_order(self):
        for around in [1, 361] + NOT_INTEGERS:
            self.refused(BadRound, around, Let.fences, around, None, None, None)
        for word in NOT_WORDS:
            self.refused(BadWord, word, Let.fences, 12, word, None, None)
        bad = NOT_ROWS + [[0, 12], (3, -9), [0, 1, 0], list(range(41))] + [[0, value] for value in NOT_INTEGERS]
        for row in bad:
            self.refused(BadMachine, "start", Let.fences, 12, "push", row, None)
            self.refused(BadMachine, "back", Let.fences, 12, "push", [0], row)

    def test_forty_turns_and_one_more(self):
        turns = list(range(100, 140))
        self.assertEqual(len(Let.fences(360, "push", turns, tuple(turns)).rules("back")), 40)
        self.refused(BadMachine, "start", Let.fences, 360, "push", turns + [140], turns)
        self.refused(BadMachine, "back", Let.fences, 360, "push", turns, turns + [140])


class Checks(Case):

    def test_round_and_then_words(self):
        push, both = Part(push=ODD), Part(EVEN, ODD)
        for part in (push, both):
            check_let(part, None)
            self.refused(BadRound, 13, check_let, part, Let(13, {"start": [("squeeze", 0, "start")]}))
        check_let(both, Let(12, RULES))
        self.refused(BadWord, "squeeze", check_let, push, Let(12, RULES))
        self.refused(BadWord, "push", check_let, Part(EVEN), Let(12, RULES))
        # A rule counts even if its state is never come to.
        never = Let(12, {"start": [], "a": [("squeeze", 0, "a")]})
        self.refused(BadWord, "squeeze", check_let, push, never)
        check_let(push, Let(12, {"start": []}))
