"""Parts and machines that several tests share, always the same ones."""

import random

from jawturns.machines import Let
from jawturns.parts import Part
from jawturns.rows import Rows
from jawturns.turnings import Turning
from tests.helpers import random_rows, repeated_rows

ODD = Turning(12, [(0, 2), (5, 8)])
EVEN = Turning(12, [(0, 1), (4, 5), (6, 7), (10, 11)])
STILL = Part(push=Turning(2, [(0, 0), (1, 1)]))


def random_part(chance, around, words, most=3):
    """A part with turnings by chance; the squeeze is even."""
    push = squeeze = None
    if "push" in words:
        push = Turning(around, random_rows(chance, around, chance.randint(1, min(most, around))))
    if "squeeze" in words:
        many = chance.randint(1, min(most, around // 2, 6))
        squeeze = Turning(around, repeated_rows(chance, around, many, 2))
    return Part(squeeze, push)


def random_let(chance, around, words, states=2, most=3):
    """A machine by chance; a state may have no rules."""
    names = ["start", "back", "odd", "x", "yonder"][:states]
    rules = {}
    for state in names:
        steps = sorted({(chance.choice(words), chance.randrange(around)) for _ in range(chance.randint(0, most))})
        rules[state] = [(word, turn, chance.choice(names)) for word, turn in steps]
    return Let(around, rules)


def small_parts(seed=3):
    """Parts of small rounds with one word and with both."""
    chance = random.Random(seed)
    found = [STILL, Part(Turning(4, [(0, 0), (2, 2)]), Turning(4, [(0, 1)])),
             Part(Turning(2, [(0, 0), (1, 1)]), Turning(2, [(1, 0)]))]
    for around, words in ((2, ["push"]), (3, ["push"]), (5, ["push"]), (6, ["push"]), (8, ["push"]),
                          (4, ["squeeze"]), (6, ["squeeze"]), (8, ["squeeze"]),
                          (4, ["push", "squeeze"]), (6, ["push", "squeeze"])):
        for _ in range(4):
            found.append(random_part(chance, around, words))
    return found


def lets_for(part, seed=5, count=4):
    """Machines for the part, of one to five states."""
    chance = random.Random(seed + part.around)
    return [random_let(chance, part.around, part.words, states, most)
            for states, most in [(1, 2), (1, 3), (2, 3), (5, 2), (3, 4)][:count]]


def climbing_part(many):
    """A part of so many rests, and rules by which it takes very many steps to bring them together.

    A rule turns every rest on to the next one; another one brings a single rest to its neighbour.
    """
    around = many * 30
    rows = [(k * 30 + 15, (k * 30 + 30) % around) for k in range(many)]
    rows[0] = (20, 30)
    return Part(push=Turning(around, rows)), [("push", 30), ("push", 12)]


def slow_machine(around, steps, names, back):
    """A machine that walks through the names, does one of the steps in the last and goes back."""
    rules = {state: [("push", 0, goal)] for state, goal in zip(names, names[1:])}
    rules[names[-1]] = [(word, turn, back) for word, turn in steps]
    return Let(around, rules)


def hole_part(many, hole, reach, slack=0):
    """A part whose many rests rotate by a small turn, or lose one of them, or nearly all.

    On a round of 360: the relative turn -1 - slack or a little less turns every rest on to the next
    one; 5 to 12 bring the rest `hole` alone to the one before it; `reach` brings all rests to rest 0
    but the last one, which comes to another. So the last rest must be the one that is not there.
    """
    gaps = [slack + 5 if at == hole else slack + 13 for at in range(1, many)]
    at = 1 if hole == 2 else 2
    gaps[at - 1] += reach - sum(gaps[:many - 2])
    rests = [0]
    for gap in gaps:
        rests.append(rests[-1] + gap)
    begins = [(rests[at - 1] + slack + 1) % 360 for at in range(many)]
    return Part(push=Turning(360, sorted(zip(begins, rests))))


def hole_parts(steps):
    """Three kinds that only after so many rotations have lost their last rest, all at once."""
    return [hole_part(many, (many - 1 - steps) % many, 120) for many in (7, 8, 9)]


def hole_machine(ahead=False):
    """Lose a rest of each kind, rotate as often as wanted, and then try to bring all together."""
    rules = {"start": [("push", 0, "back")], "back": [("push", 6, "x")],
             "x": [("push", -1, "x"), ("push", 120, "yonder")], "yonder": []}
    if ahead:
        rules["odd"] = rules["start"]
        rules["start"] = [("push", 0, "odd")]
    return Let(360, rules)


def many_rows(rows, more=()):
    """Three kinds and a machine with 599 to 601 rows, and more rules of state x.

    Each kind may be without any one of its rests: 6 * 9 * 11 rows in state x. One row is that of
    state back, one each the full rows of the other states, and the rest those without their hole.
    """
    parts = [hole_part(6, 1, 120), hole_part(9, 3, 120, 1), hole_part(11, 4, 130, 2)]
    rules = {"start": [("push", 0, "back"), ("push", 1, "x"), ("push", 2, "odd"), ("push", 3, "yonder"),
                       ("push", 4, "start")],
             "back": [("push", 8, "x"), ("push", 7, "odd"), ("push", 9, "yonder")][:1 + rows - 599],
             "x": [("push", -1, "x"), ("push", -2, "x"), ("push", -3, "x"), *more], "odd": [], "yonder": []}
    return parts, Let(360, rules)


def kinds_of(chance, around, words, many):
    """So many parts by chance with one round and at least these words; some are a part turned."""
    found = []
    for _ in range(many):
        if found and chance.random() < 0.4:
            found.append(chance.choice(found).turned(chance.randrange(around)))
        else:
            more = ["push", "squeeze"] if around % 2 == 0 and chance.random() < 0.3 else words
            found.append(random_part(chance, around, more))
    return found


def small_kinds(seed=6, least=1, most=3):
    """Pairs (kinds, machine) of small rounds."""
    chance = random.Random(seed)
    found = []
    for around, words in ((2, ["push"]), (5, ["push"]), (6, ["push"]), (12, ["push"]), (8, ["squeeze"]),
                          (12, ["squeeze"]), (6, ["push", "squeeze"]), (12, ["push", "squeeze"])):
        for many in range(least, most + 1):
            for states in (1, 2, 5):
                kinds = kinds_of(chance, around, words, many)
                let = random_let(chance, around, words, states, 4)
                if few_rows(kinds, let):
                    found.append((kinds, let))
    return found


def few_rows(kinds, let):
    """Tell whether slow definitions get to the end of the rows in time."""
    rows = {row: True for _, _, row in Rows(kinds, let).firsts()}
    waiting = list(rows)
    while waiting and len(rows) < 250:
        goals = [goal for _, _, goal in Rows(kinds, let).onward(waiting.pop()) if goal not in rows]
        waiting.extend(goals)
        rows.update({goal: True for goal in goals})
    return len(rows) < 250
