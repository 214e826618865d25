"""Points 68 to 75, and points 2 to 7, 48, 49 and 53 as far as they speak of kinds told apart."""

import copy
import random

from jawturns.errors import BadKinds, BadLog, BadPlan, BadRound, BadStanding, BadWord, TooMany
from jawturns.machines import Let
from jawturns.parts import Part
from jawturns.plans import Plan
from jawturns.telling import delay, fits, is_delay, is_tell, shows, tell, where
from jawturns.turnings import Turning
from tests.helpers import DEEP, FAR, HUGE, NOT_INTEGERS, NOT_PAIRS, NOT_ROWS, Case, table
from tests.samples import EVEN, ODD, random_let, random_part

NARROW = Part(Turning(12, [(0, 2), (6, 8)]), widths=[5, 4, 3, 4, 5, 6] * 2)
WIDE = Part(Turning(12, [(0, 3), (6, 9)]), widths=[7, 6, 5, 4, 5, 6] * 2)
LET = Let(12, {"start": [("squeeze", 0, "start")]})
TREE = ("squeeze", 0, {3: ("kind", 0), 4: ("kind", 1)})
BLIND = Part(EVEN, widths=[7] * 12)
# All of its standings are its rests, and all are alike.
STILL = Part(Turning(2, [(0, 0), (1, 1)]), widths=[4, 4])
CALLS = [lambda parts, let: tell(parts, let), lambda parts, let: delay(parts, let, most=3),
         lambda parts, let: is_tell(parts, let, None, None), lambda parts, let: is_delay(parts, let, None, None)]


def kind_by_chance(chance, around, most=3):
    """A part with widths that may well be the same at several rests."""
    part = random_part(chance, around, chance.choice([["squeeze"], ["push", "squeeze"]]), most)
    half = [chance.randint(1, 3) for _ in range(around // 2)]
    return Part(part["squeeze"], part["push"] if "push" in part.words else None, half * 2)


def samples(seed, count=60):
    """Tuples (kinds, machine, flag)."""
    chance = random.Random(seed)
    found = []
    for _ in range(count):
        around = chance.choice([2, 4, 6, 12, 12])
        kinds = [kind_by_chance(chance, around) for _ in range(chance.choice([1, 2, 2, 3]))]
        if len(kinds) > 1 and chance.random() < 0.3:
            kinds[1] = kinds[0].turned(chance.randrange(around))
        let = random_let(chance, around, ["squeeze"], chance.randint(1, 3), 3)
        found.append((kinds, let, chance.choice([False, False, True])))
    return found


class SlowTelling:
    """Points 68 to 75 by the places where all kinds may stand, without the turn of the last squeeze."""

    def __init__(self, parts, let, settled):
        self.parts = parts
        self.lifts = [table(part.around, part["squeeze"].rows) for part in parts]
        self.around = parts[0].around
        self.let = let
        self.settled = settled
        self.known = {}

    def start(self):
        return frozenset((kind, x) for kind in range(len(self.parts)) for x in range(self.around))

    def squeezed(self, kind, x, turn):
        rest = self.lifts[kind](x - turn)
        return (rest + turn) % self.around, self.parts[kind].width(rest)

    def behind(self, left, turn):
        """What is left behind a squeeze, for each width that it may show."""
        found = {}
        for kind, x in left:
            standing, width = self.squeezed(kind, x, turn)
            found.setdefault(width, set()).add((kind, standing))
        return {width: frozenset(standings) for width, standings in found.items()}

    def is_told(self, left):
        kinds = {kind for kind, _ in left}
        if len(kinds) > 1:
            return False
        period = self.parts[min(kinds)].period
        return not self.settled or len({x % period for _, x in left}) == 1

    def least(self, left, state, last, most):
        """The least number of squeezes at the worst that tells what is left, or None if more than most."""
        if self.is_told(left):
            return 0
        key = (left, state, last, most)
        if key not in self.known:
            found = []
            for _, b, goal in self.let.rules(state) if most else []:
                turn = (last + b) % self.around
                numbers = [self.least(one, goal, turn, most - 1) for one in self.behind(left, turn).values()]
                if None not in numbers:
                    found.append(max(numbers) + 1)
            self.known[key] = min(found) if found else None
        return self.known[key]

    def number(self, left, state, last, tree):
        """The number of a tree, or None if it is not right there."""
        if type(tree) is not tuple or len(tree) not in (2, 3):
            return None
        if len(tree) == 2:
            right = tree[0] == "kind" and type(tree[1]) is int and self.is_told(left)
            return 0 if right and (tree[1], ) == tuple({kind for kind, _ in left}) else None
        word, turn, branches = tree
        if word != "squeeze" or type(turn) is not int or not 0 <= turn < self.around or type(branches) is not dict:
            return None
        goals = [goal for _, b, goal in self.let.rules(state) if (last + b - turn) % self.around == 0]
        behind = self.behind(left, turn)
        if not goals or sorted(map(repr, branches)) != sorted(map(repr, behind)):
            return None
        numbers = [self.number(behind[width], goals[0], turn, branches[width]) for width in behind]
        return None if None in numbers else max(numbers) + 1

    def lots_behind(self, state, pairs):
        """The lots of point 71 that these pairs make up."""
        found = {}
        for kind, rest in pairs:
            found.setdefault(self.parts[kind].width(rest), set()).add((kind, rest))
        return [(state, tuple(sorted(lot))) for lot in found.values()]

    def first_lots(self):
        rests = [(kind, x) for kind, lift in enumerate(self.lifts) for x in range(self.around) if lift(x) == x]
        return [self.lots_behind(goal, rests) for _, _, goal in self.let.rules("start")]

    def next_lots(self, lot):
        return [self.lots_behind(goal, [(kind, self.lifts[kind](rest - b) % self.around) for kind, rest in lot[1]])
                for _, b, goal in self.let.rules(lot[0])]

    def judged_delay(self, length, thing):
        if type(length) is not int or type(thing) is not dict or length < 0:
            return False
        if length == 0:
            return thing == {}
        if self.is_told(self.start()):
            return False
        for lot, number in thing.items():
            if not self.is_lot(lot) or type(number) is not int or number < 0:
                return False
        for lots in self.first_lots():
            if not any(thing.get(lot, -1) >= length - 1 for lot in lots):
                return False
        for lot, number in thing.items():
            if number > 0 and self.is_told(lot[1]):
                return False
            for lots in self.next_lots(lot) if number > 0 else []:
                if not any(thing.get(goal, -1) >= number - 1 for goal in lots):
                    return False
        return True

    def is_lot(self, thing):
        if type(thing) is not tuple or len(thing) != 2 or thing[0] not in self.let.states:
            return False
        rests = [(kind, x) for kind, lift in enumerate(self.lifts) for x in range(self.around) if lift(x) == x]
        if type(thing[1]) is not tuple or len(thing[1]) == 0:
            return False
        if not all(any(repr(pair) == repr(rest) for rest in rests) for pair in thing[1]):
            return False
        return list(thing[1]) == sorted(set(thing[1]))

    def come_to(self):
        found = [lot for lots in self.first_lots() for lot in lots]
        for lot in found:
            if not self.is_told(lot[1]):
                found.extend([goal for lots in self.next_lots(lot) for goal in lots if goal not in found])
        return found


def spoilt_trees(chance, slow, tree):
    """Trees with a leaf, a turn, a key or a branch changed, left out or put in, one at a time."""
    around = slow.around
    if len(tree) == 2:
        return [("kind", tree[1] + 1), ("kind", tree[1] - 1), ("kind", bool(tree[1])), ("kind", float(tree[1])),
                ("kind", None), ("kinds", tree[1]), ["kind", tree[1]], ("kind",), ("kind", tree[1], 0), (tree,), None,
                tree[1], ("squeeze", 0, {}), {"kind": tree[1]}, ("kind", (tree[1],)), DEEP[1],
                *[("squeeze", turn, {width: tree for width in chance.sample([1, 2, 3], many)})
                  for turn in (0, chance.randrange(around)) for many in (1, 2)]]
    word, turn, branches = tree
    keys = list(branches)
    found = [(word, (turn + 1) % around, branches), (word, turn + around, branches), (word, turn - around, branches),
             (word, float(turn), branches), (word, bool(turn), branches), (word, str(turn), branches),
             ("push", turn, branches), (None, turn, branches), [word, turn, branches], (word, turn),
             (word, turn, branches, 0), (word, turn, list(branches.items())), (word, turn, None), (word, turn, {}),
             (word, turn, {key: branches[key] for key in keys[::-1]}), (word, turn, dict(branches)),
             (word, turn, {**branches, 0: ("kind", 0)}), (word, turn, {**branches, "1": ("kind", 0)}),
             (word, turn, {**branches, None: ("kind", 0)}), (word, turn, {**branches, DEEP[1]: ("kind", 0)})]
    for key in keys:
        rest = {other: branches[other] for other in keys if other != key}
        found.extend([(word, turn, rest), (word, turn, {**rest, float(key): branches[key]}),
                      (word, turn, {**rest, str(key): branches[key]}), (word, turn, {**rest, key + 1: branches[key]}),
                      (word, turn, {**rest, (key,): branches[key]})])
        if key == 1:
            found.append((word, turn, {**rest, True: branches[key]}))
        below = spoilt_trees(chance, slow, branches[key])
        found.extend([(word, turn, {**rest, key: one}) for one in chance.sample(below, min(8, len(below)))])
    return found


class Shown(Case):

    def test_by_definition(self):
        chance = random.Random(60)
        for around in (2, 4, 12, 60):
            for _ in range(8):
                part = kind_by_chance(chance, around)
                slow = SlowTelling([part], None, False)
                plan = Plan(around, [("squeeze", chance.randrange(around)) for _ in range(chance.randrange(6))])
                for standing in [chance.randrange(around), HUGE, -HUGE] + FAR[:4]:
                    x = standing
                    told = []
                    for _, turn in plan:
                        x, width = slow.squeezed(0, x, turn)
                        told.append(width)
                    self.assertEqual(shows(part=part, plan=plan, standing=standing), told)

    def test_some(self):
        self.assertEqual(shows(NARROW, Plan(12, [("squeeze", 0), ("squeeze", 5)]), 7), [3, 3])
        self.assertEqual(shows(NARROW, Plan(12, []), 7), [])

    def test_errors_in_order(self):
        both = Part(EVEN, ODD, [2] * 12)
        wrong = Plan(13, [("push", 0)])
        for part in (Part(EVEN), Part(push=ODD), Part(EVEN, ODD), None, 3, "part", [NARROW], EVEN, True, {}):
            self.refused(BadKinds, 0, shows, part, wrong, None)
        self.refused(BadRound, 13, shows, both, wrong, None)
        self.refused(BadPlan, 1, shows, both, Plan(12, [("squeeze", 0), ("push", 0), ("push", 1)]), None)
        self.refused(BadPlan, 0, shows, BLIND, Plan(12, [("push", 0), ("squeeze", 0)]), None)
        for standing in NOT_INTEGERS:
            self.refused(BadStanding, standing, shows, both, Plan(12, [("squeeze", 0)]), standing)
            self.refused(BadStanding, standing, shows, both, Plan(12, []), standing)


class Logs(Case):

    def test_example_of_the_interface(self):
        self.assertEqual(where([NARROW, WIDE], [(0, 3)]), [(0, 2), (0, 8)])
        self.assertEqual(fits([NARROW, WIDE], [(0, 3)]), [(0, x) for x in range(12)])

    def test_by_definition(self):
        chance = random.Random(61)
        some = 0
        for kinds, _, _ in samples(62):
            around = kinds[0].around
            slow = SlowTelling(kinds, None, False)
            for length in (0, 1, 2, 4):
                turns = [chance.randrange(-3 * around, 3 * around) for _ in range(length)]
                log = []
                left = {pair: pair[1] for pair in slow.start()}
                chosen = chance.choice(sorted(left))
                for turn in turns:
                    behind = {pair: slow.squeezed(pair[0], left[pair], turn) for pair in left}
                    width = behind[chosen][1] if chance.random() < 0.9 else 9
                    log.append((turn, width))
                    left = {pair: x for pair, (x, shown) in behind.items() if shown == width}
                    if chosen not in left:
                        break
                self.assertEqual(fits(parts=kinds, log=log), sorted(left))
                self.assertEqual(where(parts=tuple(kinds), log=tuple(log)), sorted({(kind, x) for (kind, _), x in left.items()}))
                some += 0 < len(left) < len(slow.start())
        self.assertGreater(some, 30)

    def test_the_empty_log(self):
        for log in ([], ()):
            told = [(kind, x) for kind in range(2) for x in range(12)]
            self.assertEqual(fits([NARROW, WIDE], log), told)
            self.assertEqual(where((NARROW, WIDE), log), told)

    def test_large_numbers(self):
        for turn in FAR:
            self.assertEqual(fits([NARROW, WIDE], [(turn, 3)]), fits([NARROW, WIDE], [(turn % 12, 3)]))
            self.assertEqual(where([NARROW, WIDE], [(0, 4), (turn, 4)]), where([NARROW, WIDE], [(0, 4), (turn % 12, 4)]))
        for width in (HUGE, -HUGE, -3, 0):
            self.assertEqual([fits([NARROW], [(0, width)]), where([NARROW], [(0, width)])], [[], []])

    def test_40_pairs_and_one_more(self):
        for call in (fits, where):
            self.assertEqual(len(call([NARROW], [(0, 3)] * 40)), 12 if call is fits else 2)
            self.refused(BadLog, -1, call, [NARROW], [(0, 3)] * 41)
            self.refused(BadLog, -1, call, [NARROW], [None] * 41)

    def test_strange_logs(self):
        for call in (fits, where):
            for log in NOT_ROWS:
                self.refused(BadLog, -1, call, [NARROW], log)
            for pair in NOT_PAIRS:
                self.refused(BadLog, 0, call, [NARROW], [pair, None])
                self.refused(BadLog, 2, call, [NARROW], [(0, 99), (HUGE, -1), pair])

    def test_the_kinds_first(self):
        for call in (fits, where):
            check_kinds(self, lambda parts, call=call: call(parts, None))

    def test_they_belong_to_the_caller(self):
        log = [(0, 3)]
        for call in (fits, where):
            told = call([NARROW], log)
            call([NARROW], log).clear()
            self.assertEqual(call([NARROW], log), told)
        self.assertEqual(log, [(0, 3)])


def check_kinds(case, call):
    """call(parts) refuses rows that are no kinds with widths."""
    for parts in NOT_ROWS + [[], (), [NARROW] * 4, (NARROW,) * 9, [None] * 4]:
        case.refused(BadKinds, -1, call, parts)
    blinds = (Part(EVEN), Part(push=ODD), Part(EVEN, ODD))
    for value in [None, True, 3, "", "part", EVEN, [NARROW], (), {}, LET, STILL]:
        if value is not STILL:
            case.refused(BadKinds, 0, call, [value])
        case.refused(BadKinds, 1, call, [NARROW, value, NARROW])
        case.refused(BadKinds, 2, call, (NARROW, WIDE, value))
        for blind in blinds:
            # Widths are asked for behind all other checks of the kinds.
            case.refused(BadKinds, 1, call, [blind, value])
    for blind in blinds:
        case.refused(BadKinds, 0, call, [blind])
        case.refused(BadKinds, 1, call, [NARROW, blind, blind])
        case.refused(BadKinds, 2, call, [NARROW, WIDE, blind])


class Trees(Case):

    def test_example_of_the_interface(self):
        self.assertEqual(tell([NARROW, WIDE], LET), (1, TREE))

    def test_against_a_search(self):
        found = {None: 0, 0: 0, 1: 0, 2: 0}
        for kinds, let, settled in samples(63, 150):
            slow = SlowTelling(kinds, let, settled)
            least = slow.least(slow.start(), "start", 0, 4)
            for most in (0, 1, 2, 3, 4):
                told = tell(parts=kinds, let=let, most=most, settled=settled)
                if least is None or least > most:
                    self.assertIsNone(told)
                    continue
                worst, tree = told
                self.assertEqual(worst, least)
                self.assertEqual(slow.number(slow.start(), "start", 0, tree), worst)
                self.assertIs(type(told), tuple)
                for number in range(-1, 14):
                    self.assertIs(is_tell(kinds, let, number, tree, settled=settled), worst <= number <= 12)
            found[least if least is None else min(least, 2)] += 1
            self.assertEqual(is_tell(kinds, let, 12, tell(kinds, let, settled=settled), settled=settled), False)
        self.assertGreater(min(found.values()), 9)

    def test_deep_trees(self):
        # Only when it is told by hand where the part stands, the width tells it: one turn in each state.
        chance = random.Random(64)
        deepest = 0
        for _ in range(60):
            kinds = [kind_by_chance(chance, 24, 6), kind_by_chance(chance, 24, 6)]
            let = Let(24, {"start": [("squeeze", chance.randrange(24), "start") for _ in range(1)]})
            slow = SlowTelling(kinds, let, False)
            told = tell(kinds, let)
            least = slow.least(slow.start(), "start", 0, 12)
            self.assertEqual(None if told is None else told[0], least)
            if told is not None:
                deepest = max(deepest, told[0])
                self.assertEqual(slow.number(slow.start(), "start", 0, told[1]), told[0])
        self.assertGreater(deepest, 2)

    def test_12_squeezes_and_one_more(self):
        for number in (11, 12, 13):
            kinds, let = late_kinds(number)
            self.assertEqual(tell(kinds, let, most=11), None if number > 11 else tell(kinds, let))
            if number > 12:
                self.assertIsNone(tell(kinds, let))
                continue
            worst, tree = tell(kinds, let)
            self.assertEqual(worst, number)
            self.assertIs(is_tell(kinds, let, 12, tree), True)
            self.assertIs(is_tell(kinds, let, number - 1, tree), False)

    def test_an_inner_tree_where_all_is_told(self):
        again = ("squeeze", 0, {3: ("kind", 0)})
        tree = ("squeeze", 0, {3: ("squeeze", 0, {3: again}), 4: ("kind", 1)})
        self.assertEqual([is_tell([NARROW, WIDE], LET, number, tree) for number in (1, 2, 3)], [False, False, True])
        tree = ("kind", 0)
        for number in range(1, 14):
            tree = ("squeeze", 0, {3: tree})
            self.assertEqual([is_tell([NARROW], LET, most, tree) for most in range(13)],
                             [number <= most for most in range(13)])
        self.assertIs(is_tell([NARROW], LET, 12, ("squeeze", 0, {3: ("squeeze", 0, {})})), False)

    def test_one_kind(self):
        self.assertEqual(tell([NARROW], LET), (0, ("kind", 0)))
        self.assertIs(is_tell([NARROW], LET, 0, ("kind", 0)), True)
        self.assertIs(is_tell([NARROW], LET, 0, ("kind", 1)), False)
        self.assertEqual(tell([NARROW], LET, most=0), (0, ("kind", 0)))
        # Settled it must come to alike standings.
        self.assertEqual(tell([NARROW], LET, settled=True), (1, ("squeeze", 0, {3: ("kind", 0)})))
        self.assertIsNone(tell([NARROW], LET, most=0, settled=True))
        self.assertIs(is_tell([NARROW], LET, 12, ("kind", 0), settled=True), False)
        let = Let(2, {"start": []})
        self.assertEqual(tell([STILL], let, settled=True), (0, ("kind", 0)))
        self.assertIs(is_tell([STILL], let, 0, ("kind", 0), settled=True), True)
        self.assertIsNone(tell([STILL, STILL], let))
        self.assertIs(is_tell([STILL, STILL], let, 12, ("kind", 0)), False)

    def test_the_period_is_that_of_the_part(self):
        # With a push as well the rests 2 and 8 are unlike.
        both = Part(NARROW["squeeze"], ODD, NARROW.widths)
        self.assertEqual(tell([NARROW], LET, settled=True)[0], 1)
        self.assertIsNone(tell([both], LET, settled=True))

    def test_spoilt_ones(self):
        chance = random.Random(65)
        good = bad = 0
        for kinds, let, settled in samples(66, 60):
            told = tell(kinds, let, settled=settled)
            if told is None:
                continue
            worst, tree = told
            slow = SlowTelling(kinds, let, settled)
            for thing in [tree] + spoilt_trees(chance, slow, tree):
                number = slow.number(slow.start(), "start", 0, thing)
                for most in (worst - 1, worst, worst + 1, 12):
                    right = 0 <= most <= 12 and number is not None and number <= most
                    self.assertIs(is_tell(kinds, let, most, thing, settled=settled), right, (most, thing))
                    good += right
                    bad += not right
        self.assertGreater(good, 150)
        self.assertGreater(bad, 1500)

    def test_strange_things(self):
        self.assertIs(is_tell(parts=[NARROW, WIDE], let=LET, worst=1, thing=TREE, settled=False), True)
        for thing in NOT_INTEGERS + [0, ("kind", 0), ("kind", 1), list(TREE), TREE[:2], TREE + (0,), (TREE,)]:
            self.assertIs(is_tell([NARROW, WIDE], LET, 1, thing), False)
        for worst in [-1, 0, 13, HUGE, -HUGE] + NOT_INTEGERS:
            self.assertIs(is_tell([NARROW, WIDE], LET, worst, TREE), False)
        for thing in NOT_INTEGERS + [1, -1, HUGE]:
            self.assertIs(is_tell([NARROW, WIDE], LET, 12, ("squeeze", 0, {3: ("kind", thing), 4: ("kind", 1)})), False)
            self.assertIs(is_tell([NARROW, WIDE], LET, 12, ("squeeze", thing, TREE[2])), False)
            self.assertIs(is_tell([NARROW, WIDE], LET, 12, ("squeeze", 0, thing)), False)
            self.assertIs(is_tell([NARROW, WIDE], LET, 12, ("squeeze", 0, {3: thing, 4: ("kind", 1)})), False)
            self.assertIs(is_tell([NARROW, WIDE], LET, 12, (thing, 0, TREE[2])), False)

    def test_turns_are_absolute(self):
        let = Let(12, {"start": [("squeeze", 7, "a")], "a": [("squeeze", 7, "a")]})
        found = 0
        for kinds, _, settled in samples(67, 150):
            if kinds[0].around != 12:
                continue
            told = tell(kinds, let, settled=settled)
            tree = ("kind", 0) if told is None else told[1]
            turns = []
            while tree[0] == "squeeze":
                turns.append(tree[1])
                tree = max(tree[2].values(), key=len)
            self.assertEqual(turns, [7, 2, 9, 4, 11, 6][:len(turns)])
            found += len(turns) > 1
        self.assertGreater(found, 3)

    def test_most(self):
        for most in [-1, 13, HUGE, -HUGE] + NOT_INTEGERS:
            for call in (tell, delay):
                self.refused(BadPlan, -1, call, [NARROW, WIDE], LET, most=most)
                self.refused(BadPlan, -1, call, [NARROW], LET, most=most)
        self.assertIsNone(tell([NARROW, WIDE], LET, most=0))
        self.assertEqual(tell([NARROW, WIDE], LET, most=12), (1, TREE))

    def test_600_lots_and_one_more(self):
        for many in (599, 600, 601):
            kinds, let = many_lots(many)
            self.assertEqual(len(SlowTelling(kinds, let, False).first_lots()), many - 598)
            for settled in (False, True):
                if many <= 600:
                    self.assertIsNone(tell(kinds, let, settled=settled))
                    told = delay(kinds, let, settled=settled)
                    self.assertIs(is_delay(kinds, let, 13, told, settled=settled), True)
                    self.assertLessEqual(len(told), many)
                    continue
                self.refused(TooMany, 600, tell, kinds, let, settled=settled)
                self.refused(TooMany, 600, delay, kinds, let, most=0, settled=settled)
                # The judges never raise it.
                self.assertIs(is_tell(kinds, let, 12, ("kind", 0), settled=settled), False)
                self.assertIs(is_delay(kinds, let, 1, {}, settled=settled), False)
                first = {lots[0]: 0 for lots in SlowTelling(kinds, let, settled).first_lots()}
                self.assertIs(is_delay(kinds, let, 1, first, settled=settled), True)
            self.refused(BadPlan, -1, tell, kinds, let, most=13)

    def test_errors_in_order(self):
        for call in CALLS:
            check_kinds(self, lambda parts, call=call: call(parts, Let(13, {"start": [("push", 0, "start")]})))
            self.refused(BadRound, 13, call, [NARROW], Let(13, {"start": [("push", 0, "start")]}))
            both = Part(EVEN, ODD, [2] * 12)
            for kinds in ([NARROW], [both], [both, NARROW, both]):
                self.refused(BadWord, "push", call, kinds, Let(12, {"start": [], "a": [("push", 0, "a")]}))
        self.refused(BadWord, "push", tell, [NARROW], Let(12, {"start": [("push", 0, "start")]}), most=None)
        for call in (tell, delay):
            with self.assertRaises(TypeError):
                call([NARROW], LET, 12)
        with self.assertRaises(TypeError):
            is_tell([NARROW], LET, 12, TREE, False)

    def test_nothing_is_changed(self):
        parts = [NARROW.copy(), WIDE.copy()]
        told = tell(parts, LET)
        told[1][2].clear()
        self.assertEqual(tell(parts, LET), (1, TREE))
        late = delay(parts, LET)
        kept = copy.deepcopy(late)
        delay(parts, LET).clear()
        self.assertIs(is_delay(parts, LET, 1, late), True)
        self.assertEqual([late, delay(parts, LET), parts], [kept, kept, [NARROW, WIDE]])
        tree = copy.deepcopy(TREE)
        is_tell(parts, LET, 1, tree)
        self.assertEqual(tree, TREE)

    def test_a_part_with_other_turnings(self):
        part = NARROW.copy()
        plan = Plan(12, [("squeeze", 0)])
        first = [tell([part, WIDE], LET), shows(part, plan, 1), where([part], [(0, 3)])]
        part["squeeze"] = WIDE["squeeze"]
        # At the rests 3 and 9 it shows 4, as the other one does.
        self.assertEqual([tell([part, WIDE], LET), shows(part, plan, 1), where([part], [(0, 3)])], [None, [4], []])
        part["squeeze"] = NARROW["squeeze"]
        self.assertEqual([tell([part, WIDE], LET), shows(part, plan, 1), where([part], [(0, 3)])], first)


class Delays(Case):

    def test_the_returned_one(self):
        found = 0
        for kinds, let, settled in samples(68, 100):
            slow = SlowTelling(kinds, let, settled)
            for most in (0, 1, 2, 12):
                told = tell(kinds, let, most=most, settled=settled)
                length = most + 1 if told is None else told[0]
                thing = delay(parts=kinds, let=let, most=most, settled=settled)
                self.assertIs(type(thing), dict)
                self.assertIs(is_delay(kinds, let, length, thing, settled=settled), True)
                self.assertIs(slow.judged_delay(length, thing), True)
                if told is not None:
                    self.assertIs(is_delay(kinds, let, length + 1, thing, settled=settled), False)
                found += length > 1
        self.assertGreater(found, 50)

    def test_spoilt_ones(self):
        chance = random.Random(69)
        good = bad = 0
        for kinds, let, settled in samples(70, 80):
            told = tell(kinds, let, most=3, settled=settled)
            length = 4 if told is None else told[0]
            slow = SlowTelling(kinds, let, settled)
            thing = delay(kinds, let, most=3, settled=settled)
            if length == 0 or len(thing) > 40:
                continue
            for one in spoilt_delays(chance, slow, thing):
                for number in (length, length - 1, length + 1):
                    right = slow.judged_delay(number, one)
                    self.assertIs(is_delay(kinds, let, number, one, settled=settled), right, (number, one))
                    good += right
                    bad += not right
        self.assertGreater(good, 300)
        self.assertGreater(bad, 3000)

    def test_what_a_delay_shows_is_so(self):
        chance = random.Random(71)
        found = 0
        for kinds, let, settled in samples(72, 40):
            slow = SlowTelling(kinds, let, settled)
            lots = slow.come_to()
            least = slow.least(slow.start(), "start", 0, 4)
            for _ in range(20):
                thing = {lot: chance.randrange(3) for lot in lots if chance.random() < 0.8}
                for length in (1, 2, 3):
                    if is_delay(kinds, let, length, thing, settled=settled):
                        self.assertTrue(least is None or least >= length)
                        found += 1
        self.assertGreater(found, 30)

    def test_lots_of_unlike_widths_and_other_states(self):
        let = Let(12, {"start": [("squeeze", 0, "start")], "a": []})
        told = delay([NARROW, WIDE], let)
        self.assertEqual(set(told.values()), {0})
        mixed = (("start", ((0, 2), (0, 8), (1, 3), (1, 9))), ("a", ((0, 8), (1, 3), (1, 9))))
        self.assertIs(is_delay([NARROW, WIDE], let, 1, {**told, mixed[0]: 0, mixed[1]: 0}), True)
        # In state a nothing can be told apart; in start one squeeze does it.
        self.assertIs(is_delay([NARROW, WIDE], let, 1, {**told, mixed[1]: HUGE}), True)
        self.assertIs(is_delay([NARROW, WIDE], let, 1, {**told, mixed[0]: 1}), True)
        self.assertIs(is_delay([NARROW, WIDE], let, 1, {**told, mixed[0]: 2}), False)
        # The lots to which a step leads must be keys themselves.
        few = ("start", ((0, 2), (1, 9)))
        self.assertIs(is_delay([NARROW, WIDE], let, 1, {**told, few: 1}), False)
        self.assertIs(is_delay([NARROW, WIDE], let, 1, {**told, few: 1, ("start", ((1, 9),)): 0}), True)
        for lot in (("a", ((0, 8),)), ("a", ((0, 2), (0, 8)))):
            self.assertIs(is_delay([NARROW, WIDE], let, 1, {**told, lot: 1}), False)
            self.assertIs(is_delay([NARROW, WIDE], let, 1, {**told, lot: 0}), True)
            self.assertIs(is_delay([NARROW, WIDE], let, 1, {**told, lot: 1}, settled=True), len(lot[1]) > 2)

    def test_told_at_once(self):
        for length in [1, 2, -1, HUGE] + NOT_INTEGERS:
            self.assertIs(is_delay([NARROW], LET, length, {}), False)
            self.assertIs(is_delay([STILL], Let(2, {"start": []}), length, {}, settled=True), False)
        for settled in (False, True):
            self.assertIs(is_delay([NARROW], LET, 0, {}, settled=settled), True)
        self.assertEqual(delay([NARROW], LET), {})
        self.assertIs(is_delay([NARROW], LET, 1, delay([NARROW], LET, settled=True), settled=True), True)

    def test_without_rules(self):
        let = Let(12, {"start": []})
        for length in (1, 2, HUGE):
            self.assertIs(is_delay([NARROW, WIDE], let, length, {}), True)
        self.assertEqual(delay([NARROW, WIDE], let), {})
        self.assertIsNone(tell([NARROW, WIDE], let))

    def test_lengths_and_strange_things(self):
        told = delay([NARROW, WIDE], LET)
        self.assertIs(is_delay(parts=[NARROW, WIDE], let=LET, length=1, thing=told, settled=False), True)
        for length in [-1, 0, 2, HUGE, -HUGE] + NOT_INTEGERS + [1.0, "1"]:
            self.assertIs(is_delay([NARROW, WIDE], LET, length, told), False)
        for thing in NOT_INTEGERS + [0, list(told), tuple(told.items())]:
            self.assertIs(is_delay([NARROW, WIDE], LET, 1, thing), False)
        for number in NOT_INTEGERS + [-1, 1]:
            self.assertIs(is_delay([NARROW, WIDE], LET, 1, {key: number for key in told}), False)
        lot = ("start", ((0, 2), (0, 8)))
        self.assertIn(lot, told)
        for key in near_lots(lot):
            try:
                thing = {**told, key: 0}
            except TypeError:
                continue
            self.assertIs(is_delay([NARROW, WIDE], LET, 1, thing), False, key)


def near_lots(lot):
    """Values that are nearly this lot, and are none."""
    state, (one, other) = lot
    return [None, True, 0, 1.5, "", "start", (), (state,), (state, (one, other), 0), ((one, other), state), (None, (one,)),
            ("a", (one, other)), ("", (one,)), (state, ()), (state, one), (state, None), (state, (other, one)),
            (state, (one, one)), (state, (one, other, (2, 3))), (state, ((-1, 2),)), (state, ((0, 3),)), (state, ((1, 2),)),
            (state, ((0, 12),)), (state, ((0, 13),)), (state, ((0, 14),)), (state, ((0, -10),)), (state, ((False, 2),)), (state, ((0, 2.0),)), (state, ((0,),)),
            (state, ((0, 2, 3),)), (state, ((0, None),)), (state, ((None, 2),)), (state, ((0, (2,)),)), (state, (0, 2)),
            (state, ((0, "2"),)), (state, ((0, HUGE),)), (state, "ab"), (state, (one, None)), DEEP[1]]


def spoilt_delays(chance, slow, told):
    """Dicts that are the delay with a number or a key changed, left out or put in."""
    keys = list(told)
    found = [{}, dict(told), {key: told[key] for key in keys[::-1]}]
    for key in chance.sample(keys, min(4, len(keys))):
        rest = {other: told[other] for other in keys if other != key}
        found.append(rest)
        found.extend([{**told, key: number} for number in (told[key] + 1, told[key] - 1, 0, 1, HUGE, True, False, None,
                                                           1.0, "1", (1,), DEEP[0])])
        state, pairs = key
        found.extend([{**rest, one: told[key]} for one in
                      ((state, pairs[:-1]), (state, pairs[::-1]), (state, pairs + pairs[-1:]), (state,), (state, pairs, 0),
                       ("x", pairs), (state, tuple((kind, float(x)) for kind, x in pairs)), (state, (pairs,)))])
    for lot in slow.come_to()[-1:]:
        found.extend([{**told, lot: number} for number in (0, 1, 2)])
        found.append({**told, (lot[0], lot[1][:1]): 0})
    return found


def many_lots(many):
    """Two kinds of one width alone and a machine with 599 lots and more: one for each further state."""
    one = [(0, 0), (1, 1), (2, 2), (3, 3), (4, 4), (5, 6), (8, 8), (9, 9), (10, 10), (11, 11), (12, 12), (13, 14)]
    two = [(0, 0), (2, 2), (3, 3), (4, 4), (5, 6), (7, 7), (8, 8), (10, 10), (11, 11), (12, 12), (13, 14), (15, 15)]
    kinds = [Part(Turning(16, rows), widths=[1] * 16) for rows in (one, two)]
    more = [("squeeze", 1, "a"), ("squeeze", 2, "b")][:many - 599]
    return kinds, Let(16, {"start": [("squeeze", 0, "x")] + more, "a": [], "b": [],
                           "x": [("squeeze", 4, "x"), ("squeeze", 10, "x"), ("squeeze", 11, "x")]})


def late_kinds(number):
    """Two kinds that are told apart by so many squeezes, 11 to 13, and not by fewer, at the worst.

    They show it only at their last rest, to which each third squeeze brings them by one rest nearer.
    """
    half = [(k * 3, k * 3 + 1) for k in range(5)]
    rows = half + [(begin + 30, rest + 30) for begin, rest in half]
    kinds = [Part(Turning(60, rows), widths=([1] * 13 + [width] + [1] * 16) * 2) for width in (5, 7)]
    return kinds, Let(60, {"start": [("squeeze", 0, "acb"[number - 11])], "a": [("squeeze", -3, "b")],
                           "b": [("squeeze", 0, "c")], "c": [("squeeze", 0, "a")]})
