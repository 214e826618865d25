"""Points 53 to 56, and points 2 to 7 and 48 as far as they speak of lots of rests."""

import random

from jawturns.errors import BadKinds, BadPlan, BadRound, BadSlack, BadStanding, BadWord, TooMany
from jawturns.lots import all_rows, first_rows, next_row
from jawturns.machines import Let
from jawturns.parts import Part
from jawturns.plans import Plan, after
from jawturns.turnings import Turning
from tests.helpers import FAR, HUGE, NOT_DEEDS, NOT_INTEGERS, NOT_ROWS, Case
from tests.samples import EVEN, ODD, STILL, kinds_of, many_rows, random_let, small_kinds
from tests.slow import SlowRows, come_to

ONE = Part(push=ODD)
TWO = Part(push=Turning(12, [(0, 1), (6, 9)]))
BOTH = Part(EVEN, ODD)
LET = Let(12, {"start": [("push", 0, "start"), ("push", 3, "back")], "back": [("push", -1, "start")], "odd": []})
ROW = ("start", "push", ((0, 1), (0, 1)))
NOT_KINDS = [None, True, 3, "", "part", Turning(12, [(0, 0)]), [ONE], (), {}, [], LET]
SPREADS = (0, 1, 2, 5, 60, 119, 120)


def near_rows(row):
    """Values that are nearly this row of two kinds, and are none."""
    state, word, (one, other) = row
    return [list(row), row + (0,), row[:2], (row,), [row], (state, word, [one, other]), (state, word, (list(one), other)),
            (state, word, (one,)), (state, word, (one, other, other)), (state, word, ()), (state, word, one),
            (state, word, ((), other)), (state, word, (one, ())), (state, word, (one + (9,), other)),
            (state, word, (one, (0, 0))), (state, word, (one, (1, 0))), (state, word, (one, (-1,))),
            (state, word, (one, (2,))), (state, word, (one, (HUGE,))), (state, word, (one, (True,))),
            (state, word, (one, (False, 1))), (state, word, (one, (0.0, 1))), (state, word, (one, (None,))),
            (state, word, (one, ("0",))), (state, word, (one, ((0,), (1,)))), (state, word, (one, 0)),
            (state, word, (one, None)), (state, word, {0: one}), (state, word, None), (state, "squeeze", (one, other)),
            (state, "pull", (one, other)), (state, None, (one, other)), (state, [word], (one, other)),
            ("", word, (one, other)), ("other", word, (one, other)), (None, word, (one, other)),
            ([state], word, (one, other)), ({}, word, (one, other)), (word, state, (one, other))]


class KindsCase(Case):

    def kinds_first(self, call, least, most):
        """call(parts, let) refuses rows that are no kinds, before it looks at the machine."""
        other = Let(13, {"start": [("squeeze", 0, "start")]})
        for parts in NOT_ROWS + [[], (), [ONE] * (most + 1), (ONE,) * 9, [None] * (most + 1)] + [[ONE] * (least - 1)]:
            self.refused(BadKinds, -1, call, parts, other)
        for value in NOT_KINDS + [STILL]:
            if value is not STILL:
                self.refused(BadKinds, 0, call, [value] * least, other)
            for at in range(1, most):
                parts = [ONE, TWO, ONE][:at] + [value]
                if least <= len(parts):
                    self.refused(BadKinds, at, call, parts, other)
                    self.refused(BadKinds, at, call, tuple(parts + [None])[:most], other)
        self.refused(BadKinds, 1, call, [STILL, ONE, STILL][:most], other)

    def machine_next(self, call):
        """call(parts, let) asks one part after the other for its round and then for its words."""
        self.refused(BadRound, 13, call, [ONE, TWO], Let(13, {"start": [("squeeze", 0, "start")]}))
        squeezes = Let(12, {"start": [], "a": [("squeeze", 0, "a")]})
        for parts in ([ONE, BOTH], [BOTH, ONE], (BOTH, TWO)):
            self.refused(BadWord, "squeeze", call, parts, squeezes)
        mixed = Let(12, {"start": [("squeeze", 0, "start"), ("push", 0, "start")]})
        self.refused(BadWord, "push", call, [Part(EVEN), ONE], mixed)
        self.refused(BadWord, "squeeze", call, [ONE, Part(EVEN)], mixed)
        self.refused(BadWord, "push", call, [BOTH, Part(EVEN)], mixed)


class First(KindsCase):

    def test_example_of_the_interface(self):
        let = Let(12, {"start": [("push", 0, "start"), ("push", 3, "start")]})
        self.assertEqual(first_rows([ONE, TWO], let), [("start", "push", ((0, 1), (0, 1)))])

    def test_told_ones(self):
        told = [("back", "push", ((0, 1),)), ("start", "push", ((0, 1),))]
        self.assertEqual(first_rows(parts=[ONE], let=LET), told)
        both = Let(12, {"start": [("push", k, "start") for k in range(5)] + [("squeeze", 0, "start")]})
        self.assertEqual(first_rows((BOTH, BOTH), both), [("start", "push", ((0, 1), (0, 1))),
                                                          ("start", "squeeze", ((0, 1, 2, 3), (0, 1, 2, 3)))])
        self.assertEqual(first_rows([ONE], Let(12, {"start": []})), [])

    def test_by_definition(self):
        for kinds, let in small_kinds():
            self.assertEqual(first_rows(kinds, let), SlowRows(kinds, let).firsts())

    def test_errors_in_order(self):
        self.kinds_first(first_rows, 1, 3)
        self.machine_next(first_rows)

    def test_it_belongs_to_the_caller(self):
        first_rows([ONE], LET).clear()
        all_rows([ONE], LET).clear()
        self.assertEqual([len(first_rows([ONE], LET)), len(all_rows([ONE], LET))], [2, 4])


class Next(KindsCase):

    def test_by_definition(self):
        many = 0
        for kinds, let in small_kinds():
            for spread in (0, 1, 3):
                slow = SlowRows(kinds, let, spread)
                rows = come_to(slow)
                for row in rows[:12]:
                    for word, turn, goal in slow.moves(row):
                        self.assertEqual(next_row(kinds, row, (word, turn), let, spread=spread), goal)
                        many += 1
        self.assertGreater(many, 1000)

    def test_large_rounds_and_spreads(self):
        chance = random.Random(22)
        for words in (["push"], ["push", "squeeze"]):
            kinds = kinds_of(chance, 360, words, 3)
            let = random_let(chance, 360, words, 2, 4)
            for spread in SPREADS:
                slow = SlowRows(kinds, let, spread)
                for row in slow.firsts():
                    for word, turn, goal in slow.moves(row)[:2]:
                        self.assertEqual(next_row(kinds, row, (word, turn), let, spread=spread), goal)

    def test_without_spread_by_the_standings_themselves(self):
        chance = random.Random(23)
        for kinds, let in small_kinds():
            plan = []
            rows = [row for row in first_rows(kinds, let)][:1]
            rules = [rule for rule in let.rules("start") if rows and (rule[2], rule[0]) == rows[0][:2]][:1]
            while rules and len(plan) < 5:
                last = plan[-1][1] if plan else 0
                if plan:
                    rows.append(next_row(kinds, rows[-1], rules[0][:2], let))
                plan.append((rules[0][0], last + rules[0][1]))
                for kind, part in enumerate(kinds):
                    rests = part.rests(plan[-1][0])
                    left = sorted((rests[at] + plan[-1][1]) % part.period for at in rows[-1][2][kind])
                    behind = after(part, Plan(part.around, plan))
                    self.assertEqual(left, sorted({x % part.period for x in behind}))
                rules = [chance.choice(let.rules(rules[0][2]))] if let.rules(rules[0][2]) else []

    def test_turns_are_taken_modulo_the_round(self):
        for turn in FAR:
            let = Let(12, {"start": [("push", turn, "start")]})
            goal = next_row([ONE, TWO], ROW, ("push", turn % 12), let)
            for other in (turn, turn + 12, turn - 12 * HUGE):
                self.assertEqual(next_row(parts=[ONE, TWO], row=ROW, step=("push", other), let=let), goal)

    def test_a_row_need_not_be_come_to(self):
        self.assertEqual(next_row([ONE, TWO], ("back", "push", ((1,), (0,))), ("push", 11), LET),
                         SlowRows([ONE, TWO], LET).next(("back", "push", ((1,), (0,))), ("push", 11, "start")))

    def test_strange_rows(self):
        for value in near_rows(ROW) + NOT_INTEGERS + [0, 3, HUGE, "row", "start"]:
            self.refused(BadStanding, value, next_row, [ONE, TWO], value, ("push", 0), LET)
            self.refused(BadStanding, value, next_row, [ONE, TWO], value, None, LET, spread=None)

    def test_the_word_of_a_row_is_one_of_every_kind(self):
        let = Let(12, {"start": [("push", 0, "start")]})
        for kinds, lefts in (([BOTH], ((0, 3),)), ([BOTH, BOTH], ((0, 1, 2, 3), (2,)))):
            self.assertEqual(next_row(kinds, ("start", "squeeze", lefts), ("push", 0), let)[1], "push")
        for kinds in ([BOTH, ONE], [ONE, BOTH]):
            row = ("start", "squeeze", ((0, 1), (0, 1)))
            self.refused(BadStanding, row, next_row, kinds, row, ("push", 0), let)

    def test_no_such_step(self):
        for step in NOT_DEEDS + [("push", 1), ("push", 9), ("squeeze", 0), ("push", HUGE - HUGE % 12 + 5)]:
            self.refused(BadPlan, 0, next_row, [ONE, TWO], ROW, step, LET)
            self.refused(BadPlan, 0, next_row, [ONE, TWO], ROW, step, LET, spread=None)
        self.refused(BadPlan, 0, next_row, [ONE, TWO], ("odd",) + ROW[1:], ("push", 0), LET)

    def test_spreads(self):
        for spread in [-1, 121, HUGE, -HUGE] + NOT_INTEGERS:
            self.refused(BadSlack, spread, next_row, [ONE, TWO], ROW, ("push", 0), LET, spread=spread)
        for spread in (0, 120):
            self.assertEqual(next_row([ONE, TWO], ROW, ("push", 0), LET, spread=spread)[0], "start")
        with self.assertRaises(TypeError):
            next_row([ONE, TWO], ROW, ("push", 0), LET, 0)

    def test_errors_in_order(self):
        self.kinds_first(lambda parts, let: next_row(parts, None, None, let, spread=None), 1, 3)
        self.machine_next(lambda parts, let: next_row(parts, None, None, let, spread=None))


class All(KindsCase):

    def test_by_definition(self):
        for kinds, let in small_kinds():
            for spread in (0, 2, 120):
                told = come_to(SlowRows(kinds, let, spread))
                self.assertEqual(all_rows(kinds, let, spread=spread), told)
                if spread == 0:
                    self.assertEqual(all_rows(parts=tuple(kinds), let=let), told)

    def test_600_rows_and_one_more(self):
        for many in (599, 600):
            parts, let = many_rows(many)
            self.assertEqual(len(all_rows(parts, let)), many)
        parts, let = many_rows(601)
        self.refused(TooMany, 600, all_rows, parts, let)
        self.refused(BadSlack, 121, all_rows, parts, let, spread=121)
        self.assertLess(len(all_rows(parts, let, spread=120)), 600)

    def test_spreads(self):
        for spread in [-1, 121, HUGE, -HUGE] + NOT_INTEGERS:
            self.refused(BadSlack, spread, all_rows, [ONE, TWO], LET, spread=spread)
        with self.assertRaises(TypeError):
            all_rows([ONE, TWO], LET, 0)

    def test_errors_in_order(self):
        self.kinds_first(lambda parts, let: all_rows(parts, let, spread=None), 1, 3)
        self.machine_next(lambda parts, let: all_rows(parts, let, spread=None))

    def test_nothing_is_changed(self):
        parts = [ONE.copy(), TWO.copy()]
        first = [first_rows(parts, LET), all_rows(parts, LET, spread=1), next_row(parts, ROW, ("push", 0), LET)]
        again = [first_rows(parts, LET), all_rows(parts, LET, spread=1), next_row(parts, ROW, ("push", 0), LET)]
        self.assertEqual(first, again)
        self.assertEqual(parts, [ONE, TWO])
