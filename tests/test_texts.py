"""Points 38 and 39."""

import random
import re

from jawturns.errors import BadText
from jawturns.machines import Let
from jawturns.plans import Plan
from jawturns.texts import let_text, plan_text, read_let, read_plan, read_turning, turning_text
from jawturns.turnings import Turning
from tests.helpers import HUGE, NOT_INTEGERS, Case, sample_rows
from tests.samples import random_let

READERS = (read_plan, read_turning, read_let)
LET_TEXT = "12: back: push 3 start; start: push 0 back, squeeze 6 start"
NUMBER = "(0|[1-9][0-9]{0,2})"


def slow_round(text):
    """The round and the body of a text, or None, by an expression."""
    found = re.fullmatch(f"{NUMBER}:(.*)", text, re.DOTALL)
    if found is None or not 2 <= int(found[1]) <= 360:
        return None
    return int(found[1]), found[2]


def slow_read_plan(text):
    """The deeds that a text tells, or the number that BadText has."""
    head = slow_round(text)
    if head is None:
        return 0
    around, body = head
    if body == "":
        return []
    if body[0] != " ":
        return 1
    deeds = []
    for at, piece in enumerate(body[1:].split("; ")):
        found = re.fullmatch(f"(push|squeeze) {NUMBER}", piece)
        if found is None or int(found[2]) >= around or at == 400:
            return at + 1
        deeds.append((found[1], int(found[2])))
    return deeds


def slow_read_turning(text):
    """The pairs that a text tells, or the number that BadText has."""
    head = slow_round(text)
    if head is None:
        return 0
    around, body = head
    if body[:1] != " ":
        return 1
    pairs = []
    for at, piece in enumerate(body[1:].split(" ")):
        found = re.fullmatch(f"{NUMBER}-{NUMBER}", piece)
        if found is None or max(int(found[1]), int(found[2])) >= around or at == 12:
            return at + 1
        if pairs and int(found[1]) <= pairs[-1][0]:
            return at + 1
        pairs.append((int(found[1]), int(found[2])))
    for at, (begin, rest) in enumerate(pairs):
        following = pairs[at + 1][0] if at + 1 < len(pairs) else pairs[0][0] + around
        if rest not in [x % around for x in range(begin, following)]:
            return at + 1
    return pairs


def slow_read_let(text):
    """The rules that a text tells, or the number that BadText has."""
    head = slow_round(text)
    if head is None:
        return 0
    around, body = head
    if body[:1] != " ":
        return 1
    states = {}
    rule = f"(push|squeeze) {NUMBER} [a-z]{{1,12}}"
    for at, piece in enumerate(body[1:].split("; ")):
        if re.fullmatch(f"[a-z]{{1,12}}:( {rule}(, {rule})*)?", piece) is None or at == 5:
            return at + 1
        name, _, told = piece.partition(":")
        rules = [tuple(one.split(" ")) for one in told[1:].split(", ")] if told else []
        rules = [(word, int(turn), goal) for word, turn, goal in rules]
        steps = [(word, turn) for word, turn, _ in rules]
        if any(turn >= around for _, turn in steps) or len(rules) > 40:
            return at + 1
        if any(one >= other for one, other in zip(steps, steps[1:])) or any(name <= other for other in states):
            return at + 1
        states[name] = rules
    if "start" not in states:
        return 0
    for at, rules in enumerate(states.values()):
        if any(goal not in states for _, _, goal in rules):
            return at + 1
    return states


class TextCase(Case):

    def bad(self, read, at, *texts):
        for text in texts:
            self.refused(BadText, at, read, text)


class Writing(TextCase):

    def test_told_ones(self):
        self.assertEqual(plan_text(Plan(12, [("squeeze", 0), ("push", 4)])), "12: squeeze 0; push 4")
        self.assertEqual(plan_text(Plan(12, [])), "12:")
        self.assertEqual(plan_text(Plan(360, [("push", HUGE), ("push", -1)])), f"360: push {HUGE % 360}; push 359")
        self.assertEqual(turning_text(Turning(12, [(3, 4), (8, 1)])), "12: 3-4 8-1")
        self.assertEqual(turning_text(Turning(2, [(1, 0)])), "2: 1-0")
        let = Let(12, {"start": [("squeeze", 18, "start"), ("push", 0, "back")], "back": [("push", 3, "start")]})
        self.assertEqual(let_text(let), LET_TEXT)
        self.assertEqual(let_text(Let(12, {"start": []})), "12: start:")
        self.assertEqual(let_text(Let(12, {"start": [], "a": [], "z": [("push", 1, "a")]})),
                         "12: a:; start:; z: push 1 a")

    def test_examples_of_the_interface(self):
        plan = read_plan("12: squeeze 0; push 4")
        self.assertEqual([plan.deeds, plan_text(plan >> 9)],
                         [(("squeeze", 0), ("push", 4)), "12: squeeze 9; push 1"])
        self.bad(read_turning, 2, "12: 3-4 8-01")


class ThereAndBack(TextCase):

    def test_plans(self):
        chance = random.Random(11)
        for around in (2, 9, 10, 11, 99, 100, 101, 360):
            for length in (0, 1, 2, 7, 399, 400):
                plan = Plan(around, [(chance.choice(["push", "squeeze"]), chance.randrange(around))
                                     for _ in range(length)])
                self.assertEqual(read_plan(plan_text(plan)), plan)
                self.assertEqual(slow_read_plan(plan_text(plan)), list(plan))

    def test_turnings(self):
        for around, rows in sample_rows():
            turning = Turning(around, rows)
            self.assertEqual(read_turning(turning_text(turning)), turning)
            self.assertEqual(slow_read_turning(turning_text(turning)), rows)

    def test_machines(self):
        chance = random.Random(12)
        for around in (2, 12, 360):
            for states in (1, 2, 3, 5):
                for most in (0, 1, 4, 60):
                    let = random_let(chance, around, ["push", "squeeze"], states, min(most, 40))
                    self.assertEqual(read_let(let_text(let)), let)
                    self.assertEqual(slow_read_let(let_text(let)), {state: let.rules(state) for state in let.states})
        full = Let.steps(360, ["push", "squeeze"], 7, 20)
        self.assertEqual(read_let(let_text(full)), full)


class Heads(TextCase):

    def test_no_text_and_no_round(self):
        heads = ["", " ", "12", "squeeze 0", ":", " :", "1:", "0:", "361:", "-5:", "+5:", "05:", "012:", "00:", " 12:",
                 "12 :", "1 2:", "12.0:", "twelve:", "0x9:", "1_2:", "12\n:", "\n12:", "1e1:", "12; :", "9999:",
                 "9" * 5000 + ":", "1" + "0" * 5000 + ":", "push 3: 4"]
        for read in READERS:
            self.bad(read, 0, *heads)
            self.bad(read, 0, *[f"{head} start: push 0 start" for head in heads])
            self.bad(read, 0, *[value for value in NOT_INTEGERS if not isinstance(value, str)])
            self.bad(read, 0, 12, HUGE)

    def test_the_body_begins_with_a_space(self):
        for read in READERS:
            self.bad(read, 1, "12:squeeze 0", "12:3-4", "12:start:", "12::", "12:\n", "12:;", "12:\t3-4")
        self.bad(read_turning, 1, "12:")
        self.bad(read_let, 1, "12:")
        self.assertEqual(read_plan("12:"), Plan(12, []))

    def test_rounds(self):
        for around in (2, 9, 10, 99, 100, 359, 360):
            self.assertEqual(read_plan(f"{around}: push {around - 1}").around, around)
            self.assertEqual(read_turning(f"{around}: 0-0").around, around)
            self.assertEqual(read_let(f"{around}: start:").around, around)


class Plans(TextCase):

    def test_bad_deeds(self):
        for piece in ("", " ", "push", "push ", " push 0", "push 0 ", "push  0", "push 00", "push 01", "push -1",
                      "push +1", "push 12", "push 012", "push 1.0", "pull 0", "Push 0", "0 push", "push 0;",
                      "push 0, push 1", "push 0 start", "push\n0", "push 0\n", "push0", "push a",
                      "push " + "1" * 5000, ";", "push 0;push 1"):
            self.bad(read_plan, 1, f"12: {piece}", f"12: {piece}; pull")
            self.bad(read_plan, 3, f"12: push 0; squeeze 1; {piece}", f"12: push 0; squeeze 1; {piece}; push 12")

    def test_empty_pieces(self):
        self.bad(read_plan, 1, "12: ", "12: ; ", "12: ; push 0")
        self.bad(read_plan, 2, "12: push 0; ", "12: push 0; ; push 1", "12: push 0;  push 1")

    def test_the_401st_deed(self):
        whole = "12: " + "; ".join(["push 0"] * 400)
        self.assertEqual(len(read_plan(whole)), 400)
        self.bad(read_plan, 401, whole + "; push 0", whole + "; pull", whole + "; push 0; push 0")
        self.bad(read_plan, 400, whole[:-1] + "12; push 0")


class Turnings(TextCase):

    def test_bad_pairs(self):
        for piece in ("", "3", "3-", "-4", "-", "3--4", "3-4-5", "03-4", "3-04", "12-4", "3-12", "+3-4", "3-+4", "3-4;",
                      "3:4", "3.0-4", "a-b", "3-4,", "\n3-4", "3-4\n", "3-" + "4" * 5000):
            self.bad(read_turning, 1, f"12: {piece}", f"12: {piece} 8-1")
            self.bad(read_turning, 2, f"12: 0-0 {piece}", f"12: 0-0 {piece} 2-99")

    def test_empty_pieces(self):
        self.bad(read_turning, 1, "12: ", "12:  ", "12:  3-4 8-1")
        self.bad(read_turning, 2, "12: 3-4 ", "12: 3-4  8-1")

    def test_begins_ascend(self):
        self.bad(read_turning, 2, "12: 3-4 3-4", "12: 3-4 2-1", "12: 3-4 0-0 8-1")
        self.bad(read_turning, 3, "12: 3-4 8-1 5-5", "12: 3-4 8-1 8-8 99-0")

    def test_rests_lie_in_their_stretches(self):
        self.bad(read_turning, 1, "12: 3-8 8-1", "12: 3-2 8-4", "12: 3-1 8-1")
        self.bad(read_turning, 2, "12: 3-4 8-3", "12: 3-4 8-7")
        # A bad piece comes first, however far behind.
        self.bad(read_turning, 3, "12: 3-8 8-1 4-5", "12: 3-8 8-1 ")

    def test_the_13th_pair(self):
        whole = "360: " + " ".join([f"{k}-{k}" for k in range(12)])
        self.assertEqual(len(read_turning(whole)), 12)
        self.bad(read_turning, 13, whole + " 12-12", whole + " 12-5 13-13", whole + " ")
        self.bad(read_turning, 12, "360: " + " ".join([f"{k}-{k}" for k in range(11)]) + " 11-10")


class Machines(TextCase):

    def test_bad_states(self):
        for piece in ("", "x", ":", "X:", "x1:", " x:", "x :", "x: ", "x:  push 0 x", "x:push 0 x", "x: push 0",
                      "x: push 0 x,", "x: push 0 x,push 1 x", "x: push 0 x, ", "x: , push 0 x", "x: push 0 x;",
                      "x: push 12 x", "x: push 01 x", "x: push -1 x", "x: pull 0 x", "x: push 0 X", "x: push 0 x ",
                      "x: push 0  x", "x: push 0 x1", "x: push 0 abcdefghijklm", "abcdefghijklm:", "x: push 0 x:",
                      "x:: push 0 x", "x: push 0 x, push 0 y", "x: push 1 x, push 0 x", "x: squeeze 0 x, push 0 x",
                      "x: push 0 x push 1 x", "x:\npush 0 x", "x: push 0 x\n", "x: 0 push x"):
            self.bad(read_let, 1, f"12: {piece}", f"12: {piece}; start:")
            self.bad(read_let, 2, f"12: start:; {piece}", f"12: start: push 0 nothing; {piece}; a")

    def test_names_ascend(self):
        self.bad(read_let, 2, "12: start:; start:", "12: start:; back:", "12: b:; ab:; start:")
        self.bad(read_let, 3, "12: a:; start:; b:")

    def test_forty_rules_and_one_more(self):
        rules = [f"push {turn} start" for turn in range(41)]
        whole = "360: start: " + ", ".join(rules[:40])
        self.assertEqual(len(read_let(whole).rules("start")), 40)
        self.bad(read_let, 1, whole + ", " + rules[40], whole + ", " + rules[40] + "; a")
        # It is bad by itself, so that no state "start" is missed yet.
        self.bad(read_let, 2, whole.replace(": start", ": a:; b") + ", " + rules[40])
        self.bad(read_let, 0, whole.replace(": start", ": a:; b"))

    def test_the_6th_state(self):
        whole = "12: a:; b:; c:; d:; start:"
        self.assertEqual(len(read_let(whole).states), 5)
        self.bad(read_let, 6, whole + "; t:", whole + "; ", whole + "; t:; u:")

    def test_no_start(self):
        self.bad(read_let, 0, "12: a:", "12: a: push 0 b", "12: starts: push 0 start", "12: a:; b:; c:; d:; e:")
        self.bad(read_let, 2, "12: a:; b", "12: a: push 0 z; a:")

    def test_next_states(self):
        self.bad(read_let, 1, "12: start: push 0 stop", "12: back: push 0 stop; start: push 0 stop")
        self.bad(read_let, 2, "12: back: push 0 start; start: push 0 stop", "12: a:; b: push 0 c, push 1 a; start:")
        self.bad(read_let, 3, "12: a: push 0 z; start:; b:")
        self.assertEqual(read_let("12: a: push 0 start; start: push 0 a").states, ["a", "start"])


class Spoilt(TextCase):
    """Good texts with a few characters changed, against expressions."""

    SEEDS = {
        read_plan: ["12:", "12: squeeze 0; push 4", "2: push 1; push 0; squeeze 1", "360: squeeze 359; push 100"],
        read_turning: ["12: 3-4 8-1", "2: 1-0", "360: 0-10 100-100 350-359", "12: 0-0 1-1 2-2 3-3"],
        read_let: [LET_TEXT, "12: start:", "360: a:; b: squeeze 359 a; start: push 0 b, push 1 start, squeeze 0 a"],
    }
    SLOW = {read_plan: slow_read_plan, read_turning: slow_read_turning, read_let: slow_read_let}

    def test_by_chance(self):
        chance = random.Random(13)
        for read, seeds in self.SEEDS.items():
            for seed in seeds:
                for _ in range(1500):
                    self.same(read, self.spoilt(chance, seed))
                for at in range(len(seed)):
                    self.same(read, seed[:at] + seed[at + 1:])
                    self.same(read, seed[:at])

    def spoilt(self, chance, text):
        for _ in range(chance.randint(1, 3)):
            at = chance.randrange(len(text) + 1)
            text = text[:at] + chance.choice(list("0123456789 ;:,-ax\n") + ["; ", ", ", ""]) + text[at + chance.randrange(2):]
        return text

    def same(self, read, text):
        told = self.SLOW[read](text)
        if isinstance(told, int):
            self.bad(read, told, text)
            return
        around = slow_round(text)[0]
        made = {read_plan: Plan, read_turning: Turning, read_let: Let}[read](around, told)
        self.assertEqual(read(text), made)
        # Only one text reads as an object: its own.
        write = {read_plan: plan_text, read_turning: turning_text, read_let: let_text}[read]
        self.assertEqual(write(made), text)
